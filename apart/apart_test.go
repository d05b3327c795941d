package apart_test

import (
	"math"
	"slices"
	"testing"

	"sesame/apart"
	"sesame/api"
)

func of(obj int, word uint64) api.Cap { return api.Cap{Obj: obj, Pass: api.Word{Lo: word}} }

// words gives the words of small numbers.
func words(numbers ...uint64) []api.Word {
	out := make([]api.Word, 0, len(numbers))
	for _, n := range numbers {
		out = append(out, api.Word{Lo: n})
	}
	return out
}

// small: the Config of the chapter's examples.
func small() api.Config {
	return api.Config{Width: 8, Objects: 2, Pages: 4, Entries: 4, Quota: 4, Procs: 4, List: 4, Ways: 1}
}

// roomy: one in which little is refused.
func roomy() api.Config {
	return api.Config{Width: 8, Objects: 64, Pages: 256, Entries: 64, Quota: 16, Procs: 8, List: 8, Sets: 2, Ways: 2, Knob: 64}
}

func create(size int) api.Call         { return api.Call{Op: api.OpCreate, Size: size} }
func destroy(x api.Cap) api.Call       { return api.Call{Op: api.OpDestroy, Cap: x} }
func derive(x api.Cap, r int) api.Call { return api.Call{Op: api.OpDerive, Cap: x, Rights: r} }
func revoke(x api.Cap) api.Call        { return api.Call{Op: api.OpRevoke, Cap: x} }
func add(x api.Cap) api.Call           { return api.Call{Op: api.OpAdd, Cap: x} }
func remove(index int) api.Call        { return api.Call{Op: api.OpRemove, Index: index} }
func spawn(gifts ...int) api.Call      { return api.Call{Op: api.OpSpawn, Gifts: gifts} }
func exit() api.Call                   { return api.Call{Op: api.OpExit} }

func read(x api.Cap, off, n int) api.Call {
	return api.Call{Op: api.OpRead, Given: true, Cap: x, Off: off, N: n}
}

func readNamed(obj, off, n int) api.Call {
	return api.Call{Op: api.OpRead, Cap: of(obj, 0), Off: off, N: n}
}

func write(x api.Cap, off int, data ...byte) api.Call {
	return api.Call{Op: api.OpWrite, Given: true, Cap: x, Off: off, Data: data}
}

func writeNamed(obj, off int, data ...byte) api.Call {
	return api.Call{Op: api.OpWrite, Cap: of(obj, 0), Off: off, Data: data}
}

func by(number int, c api.Call) api.Call {
	c.By = number
	return c
}

// example: the chapter's calls.
func example() []api.Call {
	return []api.Call{
		create(64),
		add(of(1, 1)),
		spawn(0),
		by(1, writeNamed(1, 2, 7, 7)),
		readNamed(1, 0, 4),
		by(1, readNamed(1, 0, 4)),
		by(1, derive(of(1, 9), 1)),
	}
}

// sameLists holds lists of places against others; an empty one may be nil.
func sameLists(got, want [][]int) bool {
	return slices.EqualFunc(got, want, func(a, b []int) bool { return slices.Equal(a, b) })
}

// wants holds a list of calls, without a process, against what is written out.
func wants(t *testing.T, c api.Config, draws []api.Word, calls []api.Call, p int, rest []int, stains [][]int) {
	t.Helper()
	if got, code := apart.Rest(c, draws, calls, p); code != api.OK || !slices.Equal(got, rest) {
		t.Errorf("P25.1: Rest without %d: %v, %d, want %v", p, got, code, rest)
	}
	if got, code := apart.Stains(c, draws, calls, p); code != api.OK || !sameLists(got, stains) {
		t.Errorf("P25.1: Stains by %d: %v, %d, want %v", p, got, code, stains)
	}
	if got, code := apart.Seen(c, draws, calls, p); code != api.OK || got != -1 {
		t.Errorf("P25.3: Seen of %d: %d, %d", p, got, code)
	}
}

// P25.1, P25.2: the chapter's example 1.
func TestExample(t *testing.T) {
	calls := example()
	replies, taken, code := apart.Play(small(), words(1, 2, 3), calls)
	want := []api.Reply{{Cap: of(1, 1)}, {}, {Number: 1}, {}, {Data: []byte{0, 0, 7, 7}}, {Data: []byte{0, 0, 7, 7}}, {Code: api.ErrCap}}
	if code != api.OK || !slices.EqualFunc(replies, want, sameReply) || !slices.Equal(taken, []int{1, 0, 0, 0, 0, 0, 0}) {
		t.Errorf("P25.1: Play: %+v, %v, %d", replies, taken, code)
	}
	wants(t, small(), words(1, 2, 3), calls, 1, []int{0, 1, 2, 4}, [][]int{4: {2, 3}, 5: {2, 3}, 6: nil})
	wants(t, small(), words(1, 2, 3), calls, 0, []int{0, 1, 2, 3, 5, 6}, make([][]int, 7))
	wants(t, small(), words(1, 2, 3), calls, 2, []int{0, 1, 2, 3, 4, 5, 6}, make([][]int, 7))

	calls[5] = by(1, readNamed(1, 3, 4))
	wants(t, small(), words(1, 2, 3), calls, 1, []int{0, 1, 2, 4}, [][]int{4: {2, 3}, 5: {0}, 6: nil})
}

// P25.1: the chapter's example 2.
func TestWrittenOver(t *testing.T) {
	calls := slices.Insert(example(), 4, writeNamed(1, 2, 5))
	wants(t, small(), words(1, 2, 3), calls, 1, []int{0, 1, 2, 4, 5}, [][]int{5: {3}, 6: {3}, 7: nil})
	wants(t, small(), words(1, 2, 3), calls, 0, []int{0, 1, 2, 3, 6, 7}, [][]int{5: {2}, 6: {2}, 7: nil})
}

// P25.1: the chapter's example 3, and what kernel.New answers else; nothing beside an error.
func TestRefused(t *testing.T) {
	wide, none := small(), small()
	wide.Width, none.Ways = 129, 0
	many := make([]api.Word, api.MaxDraws+1)
	for _, l := range []struct {
		c     api.Config
		draws []api.Word
		want  api.Errno
	}{
		{api.Config{}, words(1), api.ErrConfig},
		{wide, many, api.ErrConfig},
		{none, nil, api.ErrConfig},
		{small(), many, api.ErrMany},
		{small(), many[:api.MaxDraws], api.OK},
		{small(), nil, api.OK},
	} {
		for _, calls := range [][]api.Call{nil, example()} {
			replies, taken, code := apart.Play(l.c, l.draws, calls)
			if code != l.want || code != api.OK && (len(replies) != 0 || len(taken) != 0) {
				t.Errorf("P25.1: Play(%+v): %v, %v, %d, want %d", l.c, replies, taken, code, l.want)
			}
			rest, code := apart.Rest(l.c, l.draws, calls, 0)
			if code != l.want || code != api.OK && len(rest) != 0 {
				t.Errorf("P25.1: Rest(%+v): %v, %d, want %d", l.c, rest, code, l.want)
			}
			stains, code := apart.Stains(l.c, l.draws, calls, 0)
			if code != l.want || code != api.OK && len(stains) != 0 {
				t.Errorf("P25.1: Stains(%+v): %v, %d, want %d", l.c, stains, code, l.want)
			}
			place, code := apart.Seen(l.c, l.draws, calls, 0)
			if code != l.want || code == api.OK && place != -1 || code != api.OK && place != 0 {
				t.Errorf("P25.2: Seen(%+v): %d, %d, want %d", l.c, place, code, l.want)
			}
		}
	}
}

// Of no call nothing is told.
func TestNoCalls(t *testing.T) {
	replies, taken, code := apart.Play(small(), words(1), nil)
	if code != api.OK || len(replies) != 0 || len(taken) != 0 {
		t.Errorf("P25.1: Play of no call: %v, %v, %d", replies, taken, code)
	}
	wants(t, small(), words(1), nil, 0, nil, nil)
}

// P25.1: what takes draws, and how many; refused calls that took some are not quiet, those that took none are.
func TestTaken(t *testing.T) {
	root := of(1, 5)
	for _, l := range []struct {
		draws []api.Word
		calls []api.Call
		taken []int
		rest  []int
	}{
		{words(5, 5, 261, 7, 9), []api.Call{create(0), derive(root, 1), derive(root, 1)}, []int{1, 3, 1}, []int{0, 1, 2}},
		{words(5, 5, 5), []api.Call{create(0), derive(root, 1), derive(root, 1), create(0)}, []int{1, 2, 0, 0}, []int{0, 1}},
		{slices.Repeat(words(5), 12), []api.Call{create(0), derive(root, 1), derive(root, 1), derive(root, 1)}, []int{1, 9, 2, 0}, []int{0, 1, 2}},
		{slices.Repeat(words(5), 10), []api.Call{create(0), derive(root, 1), derive(root, 1)}, []int{1, 9, 0}, []int{0, 1}},
		{append(slices.Repeat(words(5), 9), words(6)...), []api.Call{create(0), derive(root, 1)}, []int{1, 9}, []int{0, 1}},
		{words(5, 6), []api.Call{create(-1), create(0), derive(root, 0), derive(of(1, 4), 1), derive(root, 256), create(0)}, []int{0, 1, 0, 0, 0, 1}, []int{1, 5}},
		{nil, []api.Call{create(0), derive(root, 1), exit(), exit()}, []int{0, 0, 0, 0}, []int{2}},
	} {
		if _, taken, code := apart.Play(roomy(), l.draws, l.calls); code != api.OK || !slices.Equal(taken, l.taken) {
			t.Errorf("P25.1: %+v: taken %v, %d, want %v", l.calls, taken, code, l.taken)
		}
		wants(t, roomy(), l.draws, l.calls, 0, l.rest, make([][]int, len(l.calls)))
	}
}

// P25.1: each kind of call, done and refused: which are quiet.
func TestQuiet(t *testing.T) {
	calls := []api.Call{
		create(8), derive(of(1, 5), 31), add(of(1, 5)), read(of(1, 5), 0, 8), write(of(1, 5), 0, 1), spawn(0), remove(0), revoke(of(1, 6)), destroy(of(1, 5)),
		create(4097), derive(of(1, 5), 31), add(of(1, 256)), read(of(1, 5), 0, 8), write(of(1, 5), 0, 1), spawn(0), remove(0), revoke(of(1, 6)), destroy(of(1, 5)),
		{Op: 0}, {Op: 11}, {Op: api.OpExit, Size: 1}, {Op: api.OpRead, Size: 1}, exit(), exit(), create(8), read(of(1, 5), 0, 8),
	}
	wants(t, roomy(), words(5, 6, 7), calls, 0, []int{0, 1, 2, 5, 6, 7, 8, 22}, [][]int{25: nil})
	every := make([]int, len(calls))
	for at := range calls {
		every[at] = at
	}
	wants(t, roomy(), words(5, 6, 7), calls, 1, every, make([][]int, len(calls)))
}

// P25.1: whether a process is there plays no part: calls by its number are its own, records or not.
func TestNobody(t *testing.T) {
	for _, p := range []int{math.MinInt, -1, 7, 65535, 65536, math.MaxInt} {
		calls := []api.Call{create(8), by(p, exit()), by(p, create(8)), by(p, read(of(1, 5), 0, 1)), by(p, write(of(1, 5), 0, 9)), by(p, api.Call{Op: 99}), read(of(1, 5), 0, 1), exit()}
		wants(t, roomy(), words(5, 6), calls, p, []int{0, 6, 7}, make([][]int, 8))
		wants(t, roomy(), words(5, 6), calls, 0, []int{0, 1, 2, 3, 4, 5, 7}, make([][]int, 8))
	}
}

// P25.1: what is done ahead of a process's beginning, by its number, and behind its end.
func TestAheadAndBehind(t *testing.T) {
	calls := []api.Call{
		create(8),
		by(1, write(of(1, 5), 0, 9)), // ErrCaller: it stains nothing
		spawn(),
		by(1, write(of(1, 5), 1, 9)),
		by(1, exit()),
		by(1, write(of(1, 5), 2, 9)),
		read(of(1, 5), 0, 4),
		by(1, exit()),
	}
	wants(t, roomy(), words(5), calls, 1, []int{0, 2, 4, 6}, [][]int{6: {1}, 7: nil})
}

// P25.1: which writes stain, and what takes stains away.
func TestStains(t *testing.T) {
	root := of(1, 5)
	begin := []api.Call{create(70), spawn(), spawn(), derive(root, api.Read)}
	for _, l := range []struct {
		what   string
		calls  []api.Call
		stains [][]int // by process 1
	}{
		{"over the pages' bound", []api.Call{by(1, write(root, 62, 1, 2, 3, 4)), read(root, 60, 10)}, [][]int{1: {2, 3, 4, 5}}},
		{"the first and the last byte", []api.Call{by(1, write(root, 0, 1)), by(1, write(root, 69, 1)), read(root, 0, 70)}, [][]int{2: {0, 69}}},
		{"places count from the read's own beginning", []api.Call{by(1, write(root, 4, 1, 1)), read(root, 5, 3), read(root, 4, 1), read(root, 0, 4), read(root, 6, 9)}, [][]int{1: {0}, 2: {0}, 4: nil}},
		{"bytes that are the same as before", []api.Call{by(1, write(root, 3, 0)), read(root, 0, 8)}, [][]int{1: {3}}},
		{"no byte", []api.Call{by(1, write(root, 3)), by(1, write(root, 70)), read(root, 0, 8), read(root, 70, 0)}, make([][]int, 4)},
		{"refused writes", []api.Call{by(1, write(root, 69, 1, 1)), by(1, write(of(1, 6), 0, 1)), by(1, write(of(1, 9), 1, 1)), by(1, writeNamed(1, 2, 1)), read(root, 0, 8)}, make([][]int, 5)},
		{"a refused write over it", []api.Call{by(1, write(root, 3, 1)), write(of(1, 6), 3, 2), read(root, 0, 8)}, [][]int{2: {3}}},
		{"another's write over some", []api.Call{by(1, write(root, 2, 1, 1, 1, 1)), by(2, write(root, 3, 2, 2)), read(root, 0, 8)}, [][]int{2: {2, 5}}},
		{"another's write of the same bytes", []api.Call{by(1, write(root, 2, 1)), by(2, write(root, 2, 1)), read(root, 0, 8)}, make([][]int, 3)},
		{"another's write, and its own again", []api.Call{by(1, write(root, 2, 1, 1)), by(2, write(root, 0, 2, 2, 2, 2)), by(1, write(root, 3, 1)), read(root, 0, 8)}, [][]int{3: {3}}},
		{"refused reads", []api.Call{by(1, write(root, 2, 1)), read(root, 0, 71), read(of(1, 9), 0, 8), readNamed(1, 0, 8), by(9, read(root, 0, 8))}, make([][]int, 5)},
		{"whoever reads", []api.Call{by(1, write(root, 2, 1)), read(root, 2, 1), by(1, read(of(1, 6), 2, 1)), by(2, read(root, 2, 1))}, [][]int{1: {0}, 2: {0}, 3: {0}}},
		{"behind its exit", []api.Call{by(1, write(root, 2, 1)), by(1, exit()), read(root, 0, 8)}, [][]int{2: {2}}},
		{"a new object's bytes", []api.Call{by(1, write(root, 2, 1)), destroy(root), create(70), read(of(2, 7), 0, 8), by(1, write(of(2, 7), 1, 1)), read(of(2, 7), 0, 8)}, [][]int{5: {1}}},
		{"an object behind a revoked root", []api.Call{by(1, write(root, 2, 1)), revoke(root), create(70), read(of(2, 7), 0, 8)}, make([][]int, 4)},
		{"another object at the same place", []api.Call{create(70), by(1, write(root, 2, 1)), read(of(2, 7), 0, 8), by(1, write(of(2, 7), 3, 1)), read(root, 0, 8)}, [][]int{4: {2}}},
		{"named, in its list", []api.Call{by(1, add(root)), add(root), by(1, writeNamed(1, 2, 1)), readNamed(1, 1, 8)}, [][]int{3: {1}}},
	} {
		calls := slices.Concat(begin, l.calls)
		want := slices.Concat(make([][]int, len(begin)), l.stains)
		if got, code := apart.Stains(roomy(), words(5, 6, 7), calls, 1); code != api.OK || !sameLists(got, want) {
			t.Errorf("P25.1: %s: %v, %d, want %v", l.what, got, code, want)
		}
		for p := range 4 {
			if got, code := apart.Seen(roomy(), words(5, 6, 7), calls, p); code != api.OK || got != -1 {
				t.Errorf("P25.3: %s: Seen of %d: %d, %d", l.what, p, got, code)
			}
		}
	}
}

// P25.1: an object of the greatest size, read and written as much as one call may.
func TestGreatest(t *testing.T) {
	root := of(1, 5)
	full := make([]byte, api.MaxMove)
	calls := []api.Call{create(api.MaxBytes), spawn(), by(1, write(root, 3072, full...)), write(root, 4095, 1), read(root, 3072, 1024), read(root, 2049, 1024), read(root, 3073, 1024)}
	stains, code := apart.Stains(roomy(), words(5), calls, 1)
	if code != api.OK || len(stains) != 7 || len(stains[4]) != 1023 || stains[4][1022] != 1022 || !slices.Equal(stains[5], []int{1023}) || len(stains[6]) != 0 {
		t.Errorf("P25.1: Stains: %v, %d", stains, code)
	}
}
