package guess_test

import (
	"fmt"
	"slices"
	"testing"

	"sesame/api"
)

// P26.2: what a create or derive answers is told to its caller alone.
func TestToldByReply(t *testing.T) {
	begin := []api.Call{spawn(), create(40), derive(of(1, 5), 31), by(1, derive(of(1, 6), 1))}
	in(t, "1 derives from a guess", roomy(), words(5, 6, 7), begin, true)
	begin = []api.Call{create(40), add(of(1, 5)), spawn(0), derive(of(1, 5), 31), by(1, derive(of(1, 5), 1)), by(1, create(40))}
	for _, l := range []struct {
		x    api.Cap
		by   int
		want bool
	}{{of(1, 5), 0, false}, {of(1, 5), 1, false}, {of(1, 6), 0, false}, {of(1, 6), 1, true}, {of(1, 7), 0, true}, {of(1, 7), 1, false}, {of(2, 5), 0, true}, {of(2, 5), 1, false}} {
		calls := append(slices.Clone(begin), by(l.by, read(l.x, 0, 0)))
		in(t, fmt.Sprintf("%+v", l), roomy(), words(5, 6, 7, 5), calls, l.want)
	}
	// A derive that was refused tells nothing of what it drew.
	in(t, "a refused derive", roomy(), words(5, 6, 5, 6, 5, 6, 5, 6, 5, 6, 5), []api.Call{create(40), add(of(1, 5)), spawn(0), derive(of(1, 5), 1), by(1, derive(of(1, 5), 1)), by(1, read(of(1, 6), 0, 0))}, true)
}

// P26.2: a gift tells, if its giver had been told it before; to have it in a list does not.
func TestToldByGift(t *testing.T) {
	use := func(who int, x api.Cap) api.Call { return by(who, read(x, 0, 0)) }
	draws := words(5, 6)
	begin := []api.Call{create(40), derive(of(1, 5), 1), add(of(1, 5)), add(of(1, 6))}
	for _, l := range []struct {
		what string
		then []api.Call
		want bool
	}{
		{"given", []api.Call{spawn(1), use(1, of(1, 6))}, false},
		{"given twice", []api.Call{spawn(1, 1), use(1, of(1, 6))}, false},
		{"given with others", []api.Call{spawn(0, 1, 0), use(1, of(1, 5)), use(1, of(1, 6))}, false},
		{"another given", []api.Call{spawn(0), use(1, of(1, 6))}, true},
		{"nothing given", []api.Call{spawn(), use(1, of(1, 6))}, true},
		{"given to another", []api.Call{spawn(1), spawn(0), use(2, of(1, 6))}, true},
		{"given on", []api.Call{spawn(0, 1), by(1, spawn(1)), by(2, spawn(0)), use(3, of(1, 6))}, false},
		{"another given on", []api.Call{spawn(0, 1), by(1, spawn(1)), by(2, spawn(0)), use(3, of(1, 5))}, true},
		{"given by one that has gone", []api.Call{spawn(0, 1), by(1, spawn(1)), by(1, exit()), use(2, of(1, 6))}, false},
		{"a guess given", []api.Call{spawn(), by(1, add(of(1, 6))), by(1, spawn(0)), use(2, of(1, 6))}, true},
		{"a guess given and found", []api.Call{spawn(), by(1, add(of(1, 6))), by(1, spawn(0)), by(2, readNamed(1, 0, 0))}, true},
		{"given by another place", []api.Call{remove(0), spawn(0), use(1, of(1, 6))}, false},
		{"no gift any more", []api.Call{remove(1), spawn(0), use(1, of(1, 6))}, true},
		{"a refused spawn", []api.Call{spawn(1, 2), spawn(), use(1, of(1, 6))}, true},
		{"removed by who was given it", []api.Call{spawn(1), by(1, remove(0)), use(1, of(1, 6))}, false},
		{"named", []api.Call{spawn(1), by(1, readNamed(1, 0, 40))}, false},
	} {
		in(t, l.what, roomy(), draws, append(slices.Clone(begin), l.then...), l.want)
	}
	// A giver that is told it behind the gift has told nobody.
	late := []api.Call{create(40), spawn(), by(1, add(of(1, 6))), by(1, spawn(0)), write(of(1, 5), 0, laid(of(1, 6), of(1, 5))[:40]), derive(of(1, 5), 1), by(2, read(of(1, 6), 0, 0))}
	in(t, "never told", roomy(), draws, late, true)
	// 1 is given {1, 5}, reads {1, 6} with it, and gives that on.
	early := []api.Call{create(40), add(of(1, 5)), spawn(0), write(of(1, 5), 0, laid(of(1, 6))), by(1, add(of(1, 6))), by(1, read(of(1, 5), 0, 40)), by(1, spawn(1)), derive(of(1, 5), 1), by(2, read(of(1, 6), 0, 0))}
	in(t, "told ahead of the gift", roomy(), draws, early, false)
	behind := slices.Clone(early)
	behind[5], behind[6] = early[6], early[5]
	in(t, "told behind the gift", roomy(), draws, behind, true)
	behind[8].By = 1
	in(t, "the giver, told behind the gift", roomy(), draws, behind, false)
}

// shown: process 1 is given {1, 5} of 100 bytes, and {2, 5} too; what it is told of {1, 6} it is told by reads. The last call uses it.
func shown(then ...api.Call) []api.Call {
	calls := []api.Call{create(100), create(100), add(of(1, 5)), add(of(2, 5)), spawn(0, 1), derive(of(1, 5), 31)}
	return append(append(calls, then...), by(1, derive(of(1, 6), 1)))
}

// shownIn holds In for such a run.
func shownIn(t *testing.T, what string, want bool, then ...api.Call) {
	t.Helper()
	in(t, what, roomy(), words(5, 5, 6, 7), shown(then...), want)
}

// P26.2: a read tells what one write laid whole within it, wherever it begins.
func TestToldByRead(t *testing.T) {
	row, root := laid(of(1, 6)), of(1, 5)
	shownIn(t, "no read", true, write(root, 10, row))
	shownIn(t, "no write", true, by(1, read(root, 0, 100)))
	for off := range 24 {
		for n := range 60 {
			whole := off <= 10 && 34 <= off+n
			shownIn(t, fmt.Sprint("read ", off, n), !whole, write(root, 10, row), by(1, read(root, off, n)))
		}
	}
	for _, off := range []int{0, 1, 63, 64, 75, 76} {
		shownIn(t, fmt.Sprint("written at ", off), false, write(root, off, row), by(1, read(root, 0, 100)))
	}
	for n := range 24 {
		shownIn(t, fmt.Sprint("the first bytes ", n), true, write(root, 0, row[:n]), by(1, read(root, 0, 100)))
		more := slices.Concat(make([]byte, n), row, []byte{1, 2})
		shownIn(t, fmt.Sprint("within more, at ", n), false, write(root, 3, more), by(1, read(root, 0, 100)))
	}
	shownIn(t, "with a named write", false, writeNamed(1, 9, row), by(1, read(root, 0, 100)))
	shownIn(t, "with a named read", false, write(root, 9, row), by(1, readNamed(1, 0, 100)))
	shownIn(t, "read by another", true, write(root, 9, row), read(root, 0, 100))
	shownIn(t, "read of another object", true, write(root, 9, row), by(1, read(of(2, 5), 0, 100)))
	shownIn(t, "in another object", false, write(of(2, 5), 9, row), by(1, read(of(2, 5), 0, 100)))
	shownIn(t, "a read that is refused", true, write(root, 9, row), by(1, read(root, 0, 101)))
	shownIn(t, "a write that is refused", true, write(root, 77, row), by(1, read(root, 0, 100)))
	shownIn(t, "two reads of its pieces", true, write(root, 9, row), by(1, read(root, 0, 30)), by(1, read(root, 10, 90)))
	shownIn(t, "read ahead of the write", true, by(1, read(root, 0, 100)), write(root, 9, row))
	for _, x := range []api.Cap{of(1, 7), of(2, 6), {Obj: 1, Pass: api.Word{Hi: 1, Lo: 6}}, of(1, 262), of(257, 6)} {
		shownIn(t, fmt.Sprint("another capability ", x), true, write(root, 9, laid(x)), by(1, read(root, 0, 100)))
	}
}

// P26.2: what was only added, and never given, is told by a read like any other.
func TestToldOfList(t *testing.T) {
	for _, late := range []bool{false, true} {
		calls := []api.Call{create(100), add(of(1, 5)), spawn(0), write(of(1, 5), 9, laid(of(1, 6))), derive(of(1, 5), 3), by(1, readNamed(1, 0, 100)), by(1, remove(0)), by(1, add(of(1, 6)))}
		if late {
			calls = slices.Insert(slices.Delete(calls, 7, 8), 3, by(1, add(of(1, 6))))
		}
		in(t, "it reads", roomy(), words(5, 6), append(slices.Clone(calls), by(1, readNamed(1, 0, 1))), false)
		in(t, "it writes", roomy(), words(5, 6), append(slices.Clone(calls), by(1, writeNamed(1, 0, nil))), false)
		in(t, "it has never read", roomy(), words(5, 6), append(slices.DeleteFunc(calls, func(c api.Call) bool { return c.Op == api.OpRead }), by(1, readNamed(1, 0, 1))), true)
	}
}

// P26.2: of an object whose number needs more than a byte.
func TestGreatNumbers(t *testing.T) {
	const last = 300
	var calls []api.Call
	for number := 1; number < last; number++ {
		calls = append(calls, create(0), destroy(of(number, 5)))
	}
	x := of(last, 5)
	calls = append(calls, create(64), add(x), spawn(0), write(x, 8, laid(of(last, 6))), derive(x, 31), by(1, readNamed(last, 0, 64)), by(1, read(of(last, 6), 0, 0)))
	draws := append(slices.Repeat(words(5), last), words(6)...)
	in(t, "told by a read", roomy(), draws, calls, false)
	calls[len(calls)-4].Data = laid(of(last&255, 6))
	in(t, "told another number", roomy(), draws, calls, true)
}

// P26.2: the writer may be anybody, told or not, the reader too.
func TestAnyWriter(t *testing.T) {
	row, root := laid(of(1, 6)), of(1, 5)
	shownIn(t, "written by the reader", false, by(1, write(root, 9, row)), by(1, read(root, 0, 100)))
	shownIn(t, "written by the reader, and not read", true, by(1, write(root, 9, row)))
	shownIn(t, "written by who was not told", false, spawn(0), by(2, write(root, 9, row)), by(1, read(root, 0, 100)))
	shownIn(t, "written by who has gone", false, spawn(0), by(2, write(root, 9, row)), by(2, exit()), by(1, read(root, 0, 100)))
	// It needn't be live then.
	calls := []api.Call{create(100), add(of(1, 5)), spawn(0), write(of(1, 5), 9, row), by(1, read(root, 0, 100)), derive(of(1, 5), 31), by(1, destroy(of(1, 6)))}
	in(t, "read ahead of the derive", roomy(), words(5, 6), calls, false)
	in(t, "not told it is live", roomy(), words(5, 7), calls, false)
	calls[4].N = 32
	in(t, "a piece read ahead of the derive", roomy(), words(5, 6), calls, true)
	in(t, "a piece of what is not live", roomy(), words(5, 7), calls, false)
}

// P26.2: a byte of it that another write has covered since spoils it, the same byte too.
func TestWrittenOver(t *testing.T) {
	row, root := laid(of(1, 6)), of(1, 5)
	all := by(1, read(root, 0, 100))
	for off := range 60 {
		for n := range 4 {
			over := n > 0 && off < 34 && 10 < off+n
			var same []byte
			for i := range n {
				if at := off + i - 10; 0 <= at && at < 24 {
					same = append(same, row[at])
				} else {
					same = append(same, 0)
				}
			}
			shownIn(t, fmt.Sprint("covered ", off, n), over, write(root, 10, row), write(root, off, same), all)
			shownIn(t, fmt.Sprint("covered ahead ", off, n), false, write(root, off, same), write(root, 10, row), all)
			shownIn(t, fmt.Sprint("covered behind the read ", off, n), false, write(root, 10, row), all, write(root, off, same))
		}
	}
	for n := 1; n < 24; n++ {
		first, rest := write(root, 10, row[:n]), write(root, 10+n, row[n:])
		shownIn(t, fmt.Sprint("laid by two ", n), true, first, rest, all)
		shownIn(t, fmt.Sprint("laid by two, the end ahead ", n), true, rest, first, all)
	}
	shownIn(t, "laid again", false, write(root, 10, row), write(root, 20, []byte{9}), write(root, 10, row), all)
	shownIn(t, "laid at two places, one spoilt", false, write(root, 10, row), write(root, 50, row), write(root, 12, []byte{9}), all)
	shownIn(t, "laid at two places, both spoilt", true, write(root, 10, row), write(root, 50, row), write(root, 33, make([]byte, 18)), all)
	shownIn(t, "covered by a write that is refused", false, write(root, 10, row), write(root, 20, make([]byte, 81)), all)
	shownIn(t, "covered in another object", false, write(root, 10, row), write(of(2, 5), 10, make([]byte, 30)), all)
	shownIn(t, "covered by the reader", true, write(root, 10, row), by(1, write(root, 20, []byte{0})), all)
	shownIn(t, "laid over one that is shifted", false, write(root, 5, laid(of(1, 9))), write(root, 10, row), all)
	shownIn(t, "laid under one that is shifted", true, write(root, 10, row), write(root, 5, laid(of(1, 9))), all)
}

// P26.2: a read of bytes of zeros that nobody wrote tells nothing; of zeros that were written, the capability of zeros, which is never live.
func TestZeros(t *testing.T) {
	calls := []api.Call{create(64), read(of(1, 0), 0, 64), read(of(0, 0), 0, 0), write(of(1, 0), 0, make([]byte, 64)), read(of(1, 0), 0, 64), read(of(0, 0), 0, 0), add(of(0, 0)), readNamed(0, 0, 0), readNamed(1, 0, 0), add(of(1, 0)), readNamed(1, 0, 0)}
	in(t, "its own, of the word 0", roomy(), words(0), calls, false)
	in(t, "a guess of the word 0", roomy(), words(0), append([]api.Call{spawn()}, create(64), by(1, read(of(1, 0), 0, 0))), true)
}

// P26.2: what a call tells its caller comes behind it: a read by a guess that finds the guess in what it reads was a guess.
func TestToldByItself(t *testing.T) {
	begin := []api.Call{create(64), spawn(), write(of(1, 5), 0, laid(of(1, 5)))}
	in(t, "a read", roomy(), words(5), append(slices.Clone(begin), by(1, read(of(1, 5), 0, 64))), true)
	in(t, "a named read", roomy(), words(5), append(slices.Clone(begin), by(1, add(of(1, 5))), by(1, readNamed(1, 0, 64))), true)
	in(t, "a read that is not let in tells nothing", roomy(), words(6), append(slices.Clone(begin), by(1, read(of(1, 5), 0, 64))), false)
}
