package lane_test

import (
	"bytes"
	"runtime"
	"slices"
	"strings"
	"sync"
	"testing"
	"testing/synctest"

	"sesame/api"
	"sesame/lane"
)

const room = 9

// spare gives a list with spare room, which is filled.
func spare[T any](list []T, by T) []T {
	out := append(slices.Clone(list), slices.Repeat([]T{by}, room)...)
	return out[:len(list)]
}

// written writes over all of a list, its spare room too.
func written[T any](list []T, by T) {
	list = list[:cap(list)]
	for at := range list {
		list[at] = by
	}
}

// roomyRecords gives records of all kinds of calls, refused ones and bytes that are no call among them, with spare room behind each and behind all.
func roomyRecords(t testing.TB) [][]byte {
	root := of(1, 5)
	l := laid(t,
		api.Call{Op: api.OpCreate, Size: 40}, api.Call{Op: api.OpDerive, Cap: root, Rights: 3},
		api.Call{Op: api.OpWrite, Cap: root, Given: true, Off: 2, Data: []byte{1, 2, 3}}, api.Call{Op: api.OpWrite, Cap: root, Given: true, Off: 4, Data: []byte{8, 9}},
		api.Call{Op: api.OpRead, Cap: root, Given: true, N: 9}, api.Call{Op: api.OpAdd, Cap: root}, api.Call{Op: api.OpAdd, Cap: of(1, 6)},
		api.Call{Op: api.OpSpawn, Gifts: []int{0, 1, 0}}, api.Call{Op: api.OpSpawn, Gifts: []int{1}}, api.Call{Op: api.OpRead, Cap: of(1, 0), N: 5},
		api.Call{Op: api.OpDestroy, Cap: of(9, 9)}, api.Call{Op: api.OpRemove, Index: 3}, api.Call{Op: api.OpExit, By: 2})
	l = append(l, nil, []byte{}, []byte{11}, []byte{10, 0})
	for at := range l {
		l[at] = spare(l[at], 0xee)
	}
	l = append(l, l[2], l[4], l[7], l[9]) // the same memory twice
	return spare(l, []byte{10, 0, 0})
}

// wholly gives a copy of records, the spare room told too.
func wholly(l [][]byte) [][]byte {
	var out [][]byte
	for _, b := range l[:cap(l)] {
		out = append(out, bytes.Clone(b[:cap(b)]))
	}
	return out
}

// P27.4: records are not changed, their spare room neither.
func TestRecordsStay(t *testing.T) {
	l := roomyRecords(t)
	kept := wholly(l)
	for _, workers := range []int{1, 2, 8, 64, 0, 65} {
		lane.Read(l, workers)
		lane.Run(fresh(t, roomy(), words(5, 6, 7)), l, workers)
		if !sameRows(wholly(l), kept) {
			t.Fatalf("P27.4: %d workers: the records are changed: %x", workers, wholly(l))
		}
	}
}

// P27.4: records are not kept: written over behind the call they change neither what was answered nor the kernel.
func TestRecordsNotKept(t *testing.T) {
	for _, workers := range []int{1, 2, 8, 64} {
		l, same := roomyRecords(t), roomyRecords(t)
		k, other := fresh(t, roomy(), words(5, 6, 7)), fresh(t, roomy(), words(5, 6, 7))
		calls, codes, _ := lane.Read(l, workers)
		replies, _ := lane.Run(k, l, workers)
		for _, b := range l[:cap(l)] {
			written(b, 0x77)
		}
		written(l, nil)
		reads(t, "records of the same bytes", same, workers, calls, codes)
		if want, _ := lane.Run(other, same, workers); !sameRows(replies, want) || !sameState(k.State(), other.State()) {
			t.Errorf("P27.4: %d workers: a record was kept: %x, want %x", workers, replies, want)
		}
	}
}

// P27.4: what Read answers is new memory, no two lists share any: each is written over, and all others stay.
func TestReadAnswersNewMemory(t *testing.T) {
	l := roomyRecords(t)
	kept := wholly(l)
	want, wantCodes, _ := lane.Read(l, 8)
	first := l[:len(l):len(l)]
	for at := range l {
		calls, codes, _ := lane.Read(first, 8)
		again, _, _ := lane.Read(first, 8)
		written(calls[at].Data, 99)
		written(calls[at].Gifts, 99)
		for other := range calls {
			if other != at && !sameCall(calls[other], want[other]) || !sameCall(again[other], want[other]) {
				t.Fatalf("P27.4: the lists of call %d are shared with those of %d", at, other)
			}
		}
		written(calls, api.Call{Op: 99})
		if !slices.Equal(codes, wantCodes) || !sameRows(wholly(l), kept) {
			t.Fatalf("P27.4: the calls share memory with the codes or the records")
		}
		written(codes, 99)
		reads(t, "again", l, 8, want, wantCodes)
	}
}

// P27.4: what Run answers is new memory, no two lists share any, and none with the kernel.
func TestRunAnswersNewMemory(t *testing.T) {
	l := roomyRecords(t)
	kept := wholly(l)
	want, _ := lane.Run(fresh(t, roomy(), words(5, 6, 7)), l, 8)
	for at := range l {
		k := fresh(t, roomy(), words(5, 6, 7))
		got, _ := lane.Run(k, l, 8)
		before := k.State()
		written(got[at], 99)
		for other := range got {
			if other != at && !bytes.Equal(got[other], want[other]) {
				t.Fatalf("P27.4: reply %d shares memory with %d", at, other)
			}
		}
		written(got, nil)
		if !sameState(k.State(), before) || !sameRows(wholly(l), kept) {
			t.Fatalf("P27.4: reply %d shares memory with the kernel or the records", at)
		}
	}
}

// P27.4: records that overlap in one memory are read as what each of them is.
func TestOverlap(t *testing.T) {
	row := append(bytes.Repeat([]byte{10, 0, 0}, 50), 8, 0, 0, 7, 0)
	var l [][]byte
	var calls []api.Call
	var codes []api.Errno
	for at := range row {
		for _, n := range []int{3, 5} {
			if at+n > len(row) {
				continue
			}
			b := row[at : at+n]
			l, calls, codes = append(l, b), append(calls, api.Call{}), append(codes, api.ErrRecord)
			last := len(l) - 1
			switch {
			case n == 3 && b[0] == 10:
				calls[last], codes[last] = api.Call{Op: api.OpExit}, api.OK
			case n == 5 && b[0] == 8:
				calls[last], codes[last] = api.Call{Op: api.OpRemove, Index: 7}, api.OK
			}
		}
	}
	for workers := 1; workers <= mostWorkers; workers++ {
		reads(t, "overlapping records", l, workers, calls, codes)
	}
}

// P27.3, P27.4: one list of records asked by many at once: nothing of it is written, and none sees another.
func TestShared(t *testing.T) {
	l := roomyRecords(t)
	calls, codes, _ := lane.Read(l, 1)
	replies, _ := lane.Run(fresh(t, roomy(), words(5, 6, 7)), l, 1)
	var all sync.WaitGroup
	for n := range 16 {
		all.Go(func() {
			for range 20 {
				gotCalls, gotCodes, _ := lane.Read(l, 1+n*4)
				if !slices.EqualFunc(gotCalls, calls, sameCall) || !slices.Equal(gotCodes, codes) {
					t.Errorf("P27.3: %+v, %v", gotCalls, gotCodes)
				}
				if got, _ := lane.Run(fresh(t, roomy(), words(5, 6, 7)), l, 1+n*4); !sameRows(got, replies) {
					t.Errorf("P27.3: %x, want %x", got, replies)
				}
			}
		})
	}
	all.Wait()
}

// asked calls both functions in all the ways that could leave a goroutine behind.
func asked(t testing.TB, see func()) {
	l := roomyRecords(t)
	for _, workers := range []int{1, 2, 63, 64, 0, 65} {
		for _, n := range []int{0, 1, 2, len(l)} {
			lane.Read(l[:n], workers)
			see()
			lane.Run(fresh(t, roomy(), words(5, 6, 7)), l[:n], workers)
			see()
		}
	}
}

// P27.3: no goroutine stays behind: a bubble ends only when all in it have, and fails if one waits for what will never come.
func TestAllEnd(t *testing.T) {
	synctest.Test(t, func(t *testing.T) { asked(t, func() {}) })
}

// P27.3: when a call answers, none of its goroutines is at work any more: none stands in a function of the package. (One may still be on its way out of the function literal in which it began.)
func TestEndedBehindTheAnswer(t *testing.T) {
	stacks := make([]byte, 1<<20)
	for range 50 {
		asked(t, func() {
			all := string(stacks[:runtime.Stack(stacks, true)])
			if strings.Contains(all, "sesame/lane.work(") || strings.Contains(all, "sesame/record.") {
				t.Fatalf("P27.3: a goroutine is still at work:\n%s", all)
			}
		})
	}
}
