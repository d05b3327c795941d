package lane_test

import (
	"bytes"
	"encoding/hex"
	"math"
	"reflect"
	"slices"
	"strings"
	"testing"

	"sesame/api"
	"sesame/kernel"
	"sesame/lane"
	"sesame/record"
)

const mostWorkers = 64

// wrong: numbers of workers that may not be.
var wrong = []int{math.MinInt, math.MinInt32, -64, -1, 0, 65, 66, 128, 256 + 1, 1<<16 + 1, 1<<32 + 1, math.MaxInt}

// of gives a capability with a small word.
func of(obj int, word uint64) api.Cap { return api.Cap{Obj: obj, Pass: api.Word{Lo: word}} }

// words gives the words of small numbers.
func words(numbers ...uint64) []api.Word {
	out := make([]api.Word, 0, len(numbers))
	for _, n := range numbers {
		out = append(out, api.Word{Lo: n})
	}
	return out
}

// unhex gives the bytes of hexadecimal digits; blanks are for the eye.
func unhex(t testing.TB, s string) []byte {
	t.Helper()
	b, err := hex.DecodeString(strings.ReplaceAll(s, " ", ""))
	if err != nil {
		t.Fatal(err)
	}
	return b
}

// roomy: a Config in which little is refused.
func roomy() api.Config {
	return api.Config{Width: 16, Objects: 64, Pages: 256, Entries: 256, Quota: 64, Procs: 32, List: 32, Sets: 4, Ways: 2, Knob: 64}
}

func fresh(t testing.TB, c api.Config, draws []api.Word) *kernel.Kernel {
	t.Helper()
	k, code := kernel.New(c, draws)
	if code != api.OK {
		t.Fatalf("P21.1: New(%+v): %d", c, code)
	}
	return k
}

// laid gives the records of calls that all have a form.
func laid(t testing.TB, calls ...api.Call) [][]byte {
	t.Helper()
	l := make([][]byte, 0, len(calls))
	for _, c := range calls {
		b, code := record.Bytes(c)
		if code != api.OK {
			t.Fatalf("P20.1: %+v: %d", c, code)
		}
		l = append(l, b)
	}
	return l
}

// sameCall: lists of no item may be nil or empty.
func sameCall(a, b api.Call) bool {
	same := bytes.Equal(a.Data, b.Data) && slices.Equal(a.Gifts, b.Gifts)
	a.Data, a.Gifts, b.Data, b.Gifts = nil, nil, nil, nil
	return same && reflect.DeepEqual(a, b)
}

// sameState likewise.
func sameState(a, b api.State) bool {
	object := func(x, y api.Object) bool { return x.Id == y.Id && bytes.Equal(x.Bytes, y.Bytes) }
	process := func(x, y api.Process) bool { return x.Number == y.Number && slices.Equal(x.List, y.List) }
	return slices.EqualFunc(a.Objects, b.Objects, object) && slices.Equal(a.Tokens, b.Tokens) &&
		slices.EqualFunc(a.Processes, b.Processes, process) &&
		a.NextId == b.NextId && a.NextProc == b.NextProc && a.Taken == b.Taken
}

func sameRows(a, b [][]byte) bool { return slices.EqualFunc(a, b, bytes.Equal) }

// reads holds Read against calls and codes that are known.
func reads(t *testing.T, what string, l [][]byte, workers int, calls []api.Call, codes []api.Errno) {
	t.Helper()
	gotCalls, gotCodes, code := lane.Read(l, workers)
	if code != api.OK || len(gotCalls) != len(l) || !slices.EqualFunc(gotCalls, calls, sameCall) || !slices.Equal(gotCodes, codes) {
		t.Fatalf("P27.1: %s, %d workers: %+v, %v, %d; want %+v, %v", what, workers, gotCalls, gotCodes, code, calls, codes)
	}
}

// P27.1: the chapter's first example, with each number of workers.
func TestReadExamples(t *testing.T) {
	l := [][]byte{unhex(t, "0a 0000"), unhex(t, "0b")}
	for workers := 1; workers <= mostWorkers; workers++ {
		reads(t, "none", nil, workers, nil, nil)
		reads(t, "none", [][]byte{}, workers, nil, nil)
		reads(t, "example 1", l, workers, []api.Call{{Op: api.OpExit}, {}}, []api.Errno{api.OK, api.ErrRecord})
	}
}

// P27.2: the chapter's second example, with each number of workers.
func TestRunExamples(t *testing.T) {
	for workers := 1; workers <= mostWorkers; workers++ {
		k := fresh(t, roomy(), nil)
		l := append(laid(t, api.Call{Op: api.OpDestroy, Cap: of(1, 5)}), unhex(t, "0a 0000"), unhex(t, "0a 0000"))
		got, code := lane.Run(k, l, workers)
		if want := [][]byte{{3, 0}, {0, 0}, {2, 0}}; code != api.OK || !sameRows(got, want) {
			t.Errorf("P27.2: %d workers: %x, %d", workers, got, code)
		}
	}
}

// P27.1, P27.2: a number of workers that may not be, with records and without: nothing is answered and nothing is done.
func TestWrongWorkers(t *testing.T) {
	k := fresh(t, roomy(), words(5, 6))
	k.Do(api.Call{Op: api.OpCreate, Size: 3})
	before := k.State()
	create := laid(t, api.Call{Op: api.OpCreate, Size: 1}, api.Call{Op: api.OpExit})
	for _, workers := range wrong {
		for _, l := range [][][]byte{nil, {}, create, {{11}}, {nil}} {
			if calls, codes, code := lane.Read(l, workers); code != api.ErrMany || len(calls) != 0 || len(codes) != 0 {
				t.Errorf("P27.1: Read(%x, %d): %v, %v, %d", l, workers, calls, codes, code)
			}
			if replies, code := lane.Run(k, l, workers); code != api.ErrMany || len(replies) != 0 {
				t.Errorf("P27.2: Run(.., %x, %d): %x, %d", l, workers, replies, code)
			}
		}
	}
	if !sameState(k.State(), before) {
		t.Errorf("P27.2: with ErrMany something was done: %+v", k.State())
	}
	if r := k.Do(api.Call{Op: api.OpCreate}); r.Cap != of(2, 6) {
		t.Errorf("P27.2: with ErrMany something was done: %+v", r)
	}
}

// P27.2: of no record there is no reply, and nothing is done.
func TestRunNone(t *testing.T) {
	k := fresh(t, roomy(), words(5))
	before := k.State()
	for workers := 1; workers <= mostWorkers; workers++ {
		if got, code := lane.Run(k, nil, workers); code != api.OK || len(got) != 0 || !sameState(k.State(), before) {
			t.Errorf("P27.2: no record, %d workers: %x, %d", workers, got, code)
		}
	}
}

// kinds gives a call of each form, at the bounds of their fields.
func kinds() []api.Call {
	full := api.Cap{Obj: api.MaxId, Pass: api.Word{Hi: math.MaxUint64, Lo: math.MaxUint64}}
	gifts := make([]int, 255)
	for at := range gifts {
		gifts[at] = 65535 - at
	}
	out := []api.Call{
		{Op: api.OpCreate, By: 3, Size: -1}, {Op: api.OpCreate, Size: math.MaxInt32}, {Op: api.OpCreate, Size: math.MinInt32},
		{Op: api.OpDestroy, Cap: of(7, 9)}, {Op: api.OpDestroy, By: 65535, Cap: full},
		{Op: api.OpDerive, By: 1, Cap: full, Rights: 255}, {Op: api.OpDerive},
		{Op: api.OpRevoke, By: 256, Cap: of(1, 2)}, {Op: api.OpAdd, Cap: full}, {Op: api.OpAdd},
		{Op: api.OpRead, Cap: of(7, 0), Off: 1, N: 2}, {Op: api.OpRead, Cap: full, Given: true, Off: math.MinInt32, N: math.MaxInt32},
		{Op: api.OpWrite, Cap: of(7, 0), Off: -1}, {Op: api.OpWrite, Cap: full, Given: true, Data: bytes.Repeat([]byte{1, 2, 3, 4, 5}, 205)},
		{Op: api.OpRemove, Index: 65535}, {Op: api.OpRemove}, {Op: api.OpSpawn}, {Op: api.OpSpawn, By: 2, Gifts: gifts},
		{Op: api.OpExit}, {Op: api.OpExit, By: 65535},
	}
	return out
}

// P27.1: each kind of call, what is left of its bytes when some are gone, and its bytes with one more: among one another, so that each refusal stands beside calls.
func TestReadKinds(t *testing.T) {
	var l [][]byte
	var calls []api.Call
	var codes []api.Errno
	put := func(b []byte, c api.Call, code api.Errno) {
		l, calls, codes = append(l, b), append(calls, c), append(codes, code)
	}
	for at, b := range laid(t, kinds()...) {
		c := kinds()[at]
		put(b, c, api.OK)
		for _, cut := range []int{0, 1, 2, len(b) - 1} {
			if c.Op != api.OpWrite && cut < len(b) {
				put(b[:cut], api.Call{}, api.ErrRecord)
			}
		}
		if c.Op != api.OpWrite || len(c.Data) == api.MaxMove+1 {
			put(append(bytes.Clone(b), 0), api.Call{}, api.ErrRecord)
		}
		put(append([]byte{0}, b...), api.Call{}, api.ErrRecord)
		put(append([]byte{11}, b[1:]...), api.Call{}, api.ErrRecord)
	}
	put(nil, api.Call{}, api.ErrRecord)
	for workers := 1; workers <= mostWorkers; workers++ {
		reads(t, "all kinds", l, workers, calls, codes)
	}
	for at := range l { // each alone too
		reads(t, "one", l[at:at+1], 1+at%mostWorkers, calls[at:at+1], codes[at:at+1])
	}
}

// P27.1: fewer records than workers, as many, and more: each comes back at its own place.
func TestReadPlaces(t *testing.T) {
	for _, n := range []int{1, 2, 3, 7, 63, 64, 65, 128, 129, 1000} {
		l, calls, codes := make([][]byte, n), make([]api.Call, n), make([]api.Errno, n)
		for at := range n {
			if at%5 == 3 {
				l[at], codes[at] = make([]byte, at), api.ErrRecord
				continue
			}
			calls[at] = api.Call{Op: api.OpRemove, By: at, Index: 65535 - at}
			l[at] = laid(t, calls[at])[0]
		}
		for workers := 1; workers <= mostWorkers; workers++ {
			reads(t, "places", l, workers, calls, codes)
		}
	}
}

// P27.1: a great many records, some of them long.
func TestReadMany(t *testing.T) {
	const n = 50000
	data := bytes.Repeat([]byte{7}, 1025)
	l, calls := make([][]byte, n), make([]api.Call, n)
	for at := range n {
		calls[at] = api.Call{Op: api.OpWrite, By: at, Cap: of(at, 0), Data: data[:at*37%1026]}
	}
	copy(l, laid(t, calls...))
	for _, workers := range []int{1, 8, 64} {
		reads(t, "many", l, workers, calls, make([]api.Errno, n))
	}
}

// P27.2: the records are done in their order, whoever read them: each takes the draw and the number that is next.
func TestRunOrder(t *testing.T) {
	var draws []uint64
	var calls []api.Call
	var want [][]byte
	for n := range 60 {
		draws = append(draws, uint64(1000-n))
		calls = append(calls, api.Call{Op: api.OpCreate, Size: n})
		row := make([]byte, 26)
		row[2], row[10], row[11] = byte(n+1), byte(1000-n), byte((1000-n)>>8)
		want = append(want, row)
	}
	for n := range 60 { // what one call does the next one meets
		calls = append(calls, api.Call{Op: api.OpAdd, Cap: of(n+1, uint64(1000-n))}, api.Call{Op: api.OpWrite, Cap: of(n+1, 0), Data: make([]byte, n)}, api.Call{Op: api.OpRemove}, api.Call{Op: api.OpRemove})
		want = append(want, []byte{0, 0}, []byte{0, 0}, []byte{0, 0}, []byte{15, 0})
	}
	for n := range 40 { // each new process is the one that ends next
		calls = append(calls, api.Call{Op: api.OpSpawn, By: n}, api.Call{Op: api.OpExit, By: n}, api.Call{Op: api.OpSpawn, By: n})
		want = append(want, []byte{0, 0, byte(n + 1), 0}, []byte{0, 0}, []byte{2, 0})
	}
	for workers := 1; workers <= mostWorkers; workers++ {
		k := fresh(t, roomy(), words(draws...))
		if got, code := lane.Run(k, laid(t, calls...), workers); code != api.OK || !sameRows(got, want) {
			t.Fatalf("P27.2: %d workers: %x, %d; want %x", workers, got, code, want)
		}
		if s := k.State(); s.NextProc != 41 || len(s.Processes) != 1 || s.Taken != 60 || len(s.Objects) != 60 {
			t.Fatalf("P27.2: %d workers: the state behind: %+v", workers, s)
		}
	}
}

// P27.2: bytes that are no call are answered in their place, and do nothing.
func TestRunMalformed(t *testing.T) {
	create := laid(t, api.Call{Op: api.OpCreate, Size: 1})[0]
	l := [][]byte{nil, create[:6], create, append(bytes.Clone(create), 0), {0}, create, {11, 0, 0}}
	root := func(obj, word byte) []byte {
		row := make([]byte, 26)
		row[2], row[10] = obj, word
		return row
	}
	want := [][]byte{{1, 0}, {1, 0}, root(1, 5), {1, 0}, {1, 0}, root(2, 6), {1, 0}}
	for workers := 1; workers <= mostWorkers; workers++ {
		k := fresh(t, roomy(), words(5, 6, 7))
		if got, code := lane.Run(k, l, workers); code != api.OK || !sameRows(got, want) || k.State().Taken != 2 {
			t.Errorf("P27.2: %d workers: %x, %d", workers, got, code)
		}
	}
}
