package guess_test

import (
	"fmt"
	"slices"
	"testing"

	"sesame/api"
)

// guessed: process 0 creates {1, 5}, derives {1, 7} from it with some rights, and begins process 1, which is told nothing.
func guessed(rights int, then ...api.Call) []api.Call {
	return append([]api.Call{create(40), derive(of(1, 5), rights), spawn()}, then...)
}

// P26.2: by each kind of call, with each answer: who guessed is let in, who was told is not.
func TestLetsIn(t *testing.T) {
	none, twins := words(5, 7), words(5, 7, 5, 7, 5, 7, 5, 7, 5, 7, 5)
	some := words(5, 7, 9, 11)
	for _, l := range []struct {
		rights int
		draws  []api.Word
		call   api.Call
		code   api.Errno
		in     bool
	}{
		{31, some, destroy(of(1, 5)), api.OK, true},
		{16, some, destroy(of(1, 7)), api.OK, true},
		{15, some, destroy(of(1, 7)), api.ErrRights, false},
		{31, some, destroy(of(1, 8)), api.ErrCap, false},
		{31, some, destroy(of(2, 5)), api.ErrCap, false},
		{4, some, derive(of(1, 7), 4), api.OK, true},
		{31, some, derive(of(1, 7), 31), api.OK, true},
		{4, some, derive(of(1, 7), 1), api.ErrRights, false},
		{4, some, derive(of(1, 7), 0), api.ErrRights, false},
		{4, some, derive(of(1, 7), 36), api.ErrRights, false},
		{27, some, derive(of(1, 7), 1), api.ErrRights, false},
		{31, some, derive(of(1, 8), 1), api.ErrCap, false},
		{31, none, derive(of(1, 7), 1), api.ErrDraws, true},
		{31, twins, derive(of(1, 7), 1), api.ErrTwin, true},
		{31, twins[:10], derive(of(1, 7), 1), api.ErrDraws, true},
		{31, some, revoke(of(1, 5)), api.OK, true},
		{8, some, revoke(of(1, 7)), api.OK, true},
		{23, some, revoke(of(1, 7)), api.ErrRights, false},
		{31, some, revoke(of(1, 9)), api.ErrCap, false},
		{1, some, read(of(1, 7), 0, 40), api.OK, true},
		{1, some, read(of(1, 7), 40, 0), api.OK, true},
		{1, some, read(of(1, 7), 0, 41), api.ErrRange, true},
		{1, some, read(of(1, 7), -1, 1), api.ErrRange, true},
		{1, some, read(of(1, 7), 0, 1025), api.ErrRange, true},
		{1, some, read(of(1, 7), 0, 1<<31-1), api.ErrRange, true},
		{1, some, read(of(1, 7), 0, 1<<31), api.ErrRecord, false},
		{30, some, read(of(1, 7), 0, 0), api.ErrRights, false},
		{30, some, read(of(1, 7), 0, 99), api.ErrRights, false},
		{31, some, read(of(1, 263), 0, 0), api.ErrCap, false},
		{2, some, write(of(1, 7), 0, nil), api.OK, true},
		{2, some, write(of(1, 7), 39, []byte{1}), api.OK, true},
		{2, some, write(of(1, 7), 40, []byte{1}), api.ErrRange, true},
		{2, some, write(of(1, 7), 0, make([]byte, 1025)), api.ErrRange, true},
		{2, some, write(of(1, 7), 0, make([]byte, 1026)), api.ErrRecord, false},
		{29, some, write(of(1, 7), 0, nil), api.ErrRights, false},
		{31, some, write(of(-1, 7), 0, nil), api.ErrRecord, false},
		{31, some, create(0), api.OK, false},
		{31, some, create(-1), api.ErrSize, false},
		{31, some, add(of(1, 7)), api.OK, false},
		{31, some, add(of(1, 263)), api.ErrWidth, false},
		{31, some, remove(0), api.ErrIndex, false},
		{31, some, spawn(), api.OK, false},
		{31, some, exit(), api.OK, false},
		{31, some, api.Call{}, api.ErrRecord, false},
		{31, some, api.Call{Op: api.OpDestroy, Cap: of(1, 5), Given: true}, api.ErrRecord, false},
		{31, some, api.Call{Op: api.OpRevoke, Cap: of(1, 5), Size: 1}, api.ErrRecord, false},
		{31, some, api.Call{Op: api.OpRead, Cap: of(1, 5)}, api.ErrRecord, false},
	} {
		for _, c := range []api.Config{roomy(), {Width: 8, Objects: 8, Pages: 8, Entries: 9, Quota: 9, Procs: 8, List: 1, Ways: 1}} {
			for who, lets := range map[int]bool{0: false, 1: l.in, 2: false, -1: false} {
				calls := guessed(l.rights, by(who, l.call))
				in(t, fmt.Sprintf("%+v by %d", l.call, who), c, l.draws, calls, lets)
				if code := told(t, c, l.draws, calls).replies[3].Code; who == 1 && code != l.code {
					t.Errorf("P21.2: %+v: %d, want %d", l.call, code, l.code)
				}
			}
		}
	}
}

// P26.2: what is full refuses a derive that was let in.
func TestFull(t *testing.T) {
	for _, l := range []struct {
		entries, quota int
		code           api.Errno
	}{{2, 9, api.ErrEntry}, {9, 2, api.ErrQuota}, {2, 2, api.ErrQuota}} {
		c := roomy()
		c.Entries, c.Quota = l.entries, l.quota
		calls := guessed(31, by(1, derive(of(1, 7), 1)))
		in(t, "a guess", c, words(5, 7, 9), calls, true)
		if code := told(t, c, words(5, 7, 9), calls).replies[3].Code; code != l.code {
			t.Errorf("P21.2: %d, want %d", code, l.code)
		}
		calls[3].By = 0
		in(t, "no guess", c, words(5, 7, 9), calls, false)
	}
}

// P26.2: any call of the run counts, whatever comes ahead of it or behind.
func TestAnyPlace(t *testing.T) {
	quiet := []api.Call{create(0), by(1, read(of(1, 8), 0, 0)), by(1, add(of(1, 9))), read(of(1, 5), 0, 1), {Op: 99}}
	for at := range len(quiet) + 1 {
		then := slices.Insert(slices.Clone(quiet), at, by(1, read(of(1, 7), 0, 1)))
		in(t, "with a guess", roomy(), words(5, 7, 10), guessed(31, then...), true)
	}
	in(t, "without one", roomy(), words(5, 7, 10), guessed(31, quiet...), false)
	in(t, "no call", roomy(), words(5, 7, 10), nil, false)
	in(t, "ahead of the creation", roomy(), words(5), []api.Call{spawn(), by(1, read(of(1, 5), 0, 0)), create(8)}, false)
	in(t, "behind a revoke", roomy(), words(5, 7), guessed(31, revoke(of(1, 7)), by(1, read(of(1, 7), 0, 0))), false)
	in(t, "behind a destroy", roomy(), words(5, 7), guessed(31, destroy(of(1, 7)), by(1, read(of(1, 5), 0, 0))), false)
}

// P26.2: draws are cut to the width; so is no guess.
func TestWidth(t *testing.T) {
	for _, width := range []int{1, 2, 8, 63, 64, 65, 127, 128} {
		c := roomy()
		c.Width = width
		word := api.Word{Hi: 1<<63 | 1, Lo: 1<<63 | 1}
		fits := map[int]api.Word{1: {Lo: 1}, 2: {Lo: 1}, 8: {Lo: 1}, 63: {Lo: 1}, 64: {Lo: word.Lo}, 65: {Hi: 1, Lo: word.Lo}, 127: {Hi: 1, Lo: word.Lo}, 128: word}[width]
		for _, guess := range []api.Word{word, fits} {
			x := api.Cap{Obj: 1, Pass: guess}
			calls := []api.Call{spawn(), create(0), by(1, read(x, 0, 0))}
			in(t, "given", c, []api.Word{word}, calls, guess == fits)
			calls = append(calls[:2:2], by(1, add(x)), by(1, readNamed(1, 0, 0)))
			in(t, "named", c, []api.Word{word}, calls, guess == fits)
			in(t, "its own", c, []api.Word{word}, []api.Call{create(0), read(x, 0, 0), add(x), readNamed(1, 0, 0)}, false)
		}
	}
}

// P26.2: which of the caller's list a named call has validated: the first of this object that is live and has the right, told or not.
func TestNamed(t *testing.T) {
	// {1, 5} the root, {1, 6} to read, {1, 7} to write, {1, 8} both, {2, 5} another object's; all of 0, who gives process 1 some of them. It guesses the others.
	begin := []api.Call{create(40), derive(of(1, 5), 1), derive(of(1, 5), 2), derive(of(1, 5), 3), create(40)}
	draws := words(5, 6, 7, 8, 5)
	for _, l := range []struct {
		gifts, guesses []api.Cap
		read, write    bool
	}{
		{[]api.Cap{of(1, 8)}, nil, false, false},
		{nil, []api.Cap{of(1, 8)}, true, true},
		{[]api.Cap{of(1, 6)}, []api.Cap{of(1, 8)}, false, true},
		{[]api.Cap{of(1, 7)}, []api.Cap{of(1, 8)}, true, false},
		{[]api.Cap{of(1, 6), of(1, 7)}, []api.Cap{of(1, 8), of(1, 5)}, false, false},
		{[]api.Cap{of(2, 5), of(1, 9)}, []api.Cap{of(1, 6)}, true, false},
		{[]api.Cap{of(2, 5), of(1, 9)}, []api.Cap{of(1, 7)}, false, true},
		{[]api.Cap{of(1, 8), of(1, 8)}, []api.Cap{of(1, 8)}, false, false},
		{nil, nil, false, false},
		{[]api.Cap{of(2, 5)}, []api.Cap{of(1, 10), of(1, 264), of(3, 5)}, false, false},
		{nil, []api.Cap{of(1, 6), of(1, 7)}, true, true},
	} {
		calls := slices.Clone(begin)
		var places []int
		for place, x := range l.gifts {
			calls, places = append(calls, add(x)), append(places, place)
		}
		calls = append(calls, spawn(places...))
		for _, x := range l.guesses {
			calls = append(calls, by(1, add(x)))
		}
		what := fmt.Sprintf("%+v", l)
		in(t, what+" reads", roomy(), draws, append(slices.Clone(calls), by(1, readNamed(1, 0, 1))), l.read)
		in(t, what+" reads too much", roomy(), draws, append(slices.Clone(calls), by(1, readNamed(1, 0, 41))), l.read)
		in(t, what+" writes", roomy(), draws, append(slices.Clone(calls), by(1, writeNamed(1, 0, []byte{1}))), l.write)
		in(t, what+" writes too much", roomy(), draws, append(slices.Clone(calls), by(1, writeNamed(1, 40, []byte{1}))), l.write)
		in(t, what+" is no caller", roomy(), draws, append(slices.Clone(calls), by(2, readNamed(1, 0, 1))), false)
		in(t, what+" has gone", roomy(), draws, append(slices.Clone(calls), by(1, exit()), by(1, readNamed(1, 0, 1))), false)
	}
}

// P26.2: the list is as it is at the call: what was removed is not found, and those behind it have moved up.
func TestRemoved(t *testing.T) {
	begin := []api.Call{create(40), derive(of(1, 5), 9), add(of(1, 6)), spawn(0), by(1, add(of(1, 5))), by(1, add(of(1, 6)))}
	for _, l := range []struct {
		indexes []int
		in      bool
	}{{nil, false}, {[]int{0}, true}, {[]int{1}, false}, {[]int{2}, false}, {[]int{0, 0}, false}, {[]int{0, 1}, true}, {[]int{1, 1}, false}, {[]int{3, 0}, true}, {[]int{0, 0, 0}, false}} {
		calls := slices.Clone(begin)
		for _, index := range l.indexes {
			calls = append(calls, by(1, remove(index)))
		}
		calls = append(calls, by(1, readNamed(1, 0, 0)))
		in(t, fmt.Sprint("without ", l.indexes), roomy(), words(5, 6), calls, l.in)
	}
	revoked := append(slices.Clone(begin), revoke(of(1, 6)), by(1, readNamed(1, 0, 0)))
	in(t, "the first is revoked", roomy(), words(5, 6), revoked, true)
}

// P26.2: a word that is drawn again for the same object: who was told it once has been told it.
func TestDrawnAgain(t *testing.T) {
	calls := []api.Call{create(40), derive(of(1, 5), 9), add(of(1, 6)), spawn(0), spawn(), revoke(of(1, 6)), derive(of(1, 5), 1), by(1, read(of(1, 6), 0, 0))}
	in(t, "told ahead of the revoke", roomy(), words(5, 6, 6), calls, false)
	calls[7].By = 2
	in(t, "never told", roomy(), words(5, 6, 6), calls, true)
	calls = append(calls[:7:7], create(0), by(1, read(of(2, 6), 0, 0)))
	in(t, "told it of another object", roomy(), words(5, 6, 6, 6), calls, true)
}
