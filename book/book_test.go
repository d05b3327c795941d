package book_test

import (
	"bytes"
	"encoding/binary"
	"slices"
	"testing"

	"sesame/api"
	"sesame/book"
)

func of(obj int, word uint64) api.Cap { return api.Cap{Obj: obj, Pass: api.Word{Lo: word}} }

// words gives the words of small numbers.
func words(numbers ...uint64) []api.Word {
	out := make([]api.Word, 0, len(numbers))
	for _, n := range numbers {
		out = append(out, api.Word{Lo: n})
	}
	return out
}

// laid gives capabilities' bytes, one behind the other.
func laid(caps ...api.Cap) []byte {
	var out []byte
	for _, x := range caps {
		out = binary.LittleEndian.AppendUint64(out, uint64(x.Obj))
		out = binary.LittleEndian.AppendUint64(out, x.Pass.Lo)
		out = binary.LittleEndian.AppendUint64(out, x.Pass.Hi)
	}
	return out
}

// roomy: a Config in which little is refused.
func roomy(width int) api.Config {
	return api.Config{Width: width, Objects: 4, Pages: 16, Entries: 16, Quota: 16, Procs: 8, List: 8, Sets: 2, Ways: 2, Knob: 64}
}

func create(size int) api.Call         { return api.Call{Op: api.OpCreate, Size: size} }
func destroy(x api.Cap) api.Call       { return api.Call{Op: api.OpDestroy, Cap: x} }
func derive(x api.Cap, r int) api.Call { return api.Call{Op: api.OpDerive, Cap: x, Rights: r} }
func revoke(x api.Cap) api.Call        { return api.Call{Op: api.OpRevoke, Cap: x} }
func add(x api.Cap) api.Call           { return api.Call{Op: api.OpAdd, Cap: x} }
func remove(index int) api.Call        { return api.Call{Op: api.OpRemove, Index: index} }
func spawn(gifts ...int) api.Call      { return api.Call{Op: api.OpSpawn, Gifts: gifts} }
func exit() api.Call                   { return api.Call{Op: api.OpExit} }

func read(x api.Cap, off, n int) api.Call {
	return api.Call{Op: api.OpRead, Given: true, Cap: x, Off: off, N: n}
}

func readNamed(obj, off, n int) api.Call {
	return api.Call{Op: api.OpRead, Cap: of(obj, 0), Off: off, N: n}
}

func write(x api.Cap, off int, data []byte) api.Call {
	return api.Call{Op: api.OpWrite, Given: true, Cap: x, Off: off, Data: data}
}

func writeNamed(obj, off int, data []byte) api.Call {
	return api.Call{Op: api.OpWrite, Cap: of(obj, 0), Off: off, Data: data}
}

func by(number int, c api.Call) api.Call {
	c.By = number
	return c
}

// way holds a Way against Links that are written out; none: not told.
func (w *world) way(proc int, x api.Cap, want ...book.Link) {
	w.t.Helper()
	got, told := w.b.Way(proc, x)
	if !slices.Equal(got, want) || told != (len(want) > 0) {
		w.t.Errorf("P24.4: Way(%d, %v): %v, %v, want %v", proc, x, got, told, want)
	}
	if w.b.Told(proc, x) != told || slices.Contains(w.b.Known(proc), x) != told {
		w.t.Errorf("P24.3: %d, %v: Told %v, Known %v", proc, x, w.b.Told(proc, x), w.b.Known(proc))
	}
	w.holds([]int{proc}, []api.Cap{x})
}

func (w *world) shown(c api.Call, want api.Cap, is bool) {
	w.t.Helper()
	if got, shown := w.b.Shown(c); got != want || shown != is {
		w.t.Errorf("P24.2: Shown(%+v): %v, %v, want %v, %v", c, got, shown, want, is)
	}
	w.asks(c)
}

func (w *world) rights(x api.Cap, want int, is bool) {
	w.t.Helper()
	if got, live := w.b.Rights(x); got != want || live != is {
		w.t.Errorf("P24.1: Rights(%v): %d, %v, want %d, %v", x, got, live, want, is)
	}
	w.holds(nil, []api.Cap{x})
}

func (w *world) honest(c api.Call, want bool) {
	w.t.Helper()
	if got := w.b.Honest(c); got != want {
		w.t.Errorf("P24.5: Honest(%+v): %v", c, got)
	}
	w.asks(c)
}

// example: the chapter's steps 1 to 5.
func example(t *testing.T) *world {
	w := made(t, roomy(8), words(5, 7, 11, 13))
	w.ok(create(100))
	w.ok(derive(of(1, 5), api.Read))
	w.ok(add(of(1, 7)))
	w.ok(spawn(0))
	w.ok(write(of(1, 5), 10, laid(of(1, 5))))
	return w
}

// P24.1 to P24.5: the chapter's examples.
func TestExamples(t *testing.T) {
	w := example(t)
	created := book.Link{Step: 1, Kind: book.KCreated, Cap: of(1, 5)}
	derived := book.Link{Step: 2, Kind: book.KDerived, Cap: of(1, 7)}
	w.way(0, of(1, 5), created)
	w.rights(of(1, 5), 31, true)
	w.rights(of(1, 7), 1, true)
	w.way(0, of(1, 7), created, derived)
	w.way(1, of(1, 7), created, derived, book.Link{Step: 4, Kind: book.KGift, To: 1, Cap: of(1, 7)})
	w.way(1, of(1, 5))
	w.honest(by(1, write(of(1, 5), 0, nil)), false)
	w.shown(by(1, readNamed(1, 0, 1)), of(1, 7), true)
	w.ok(by(1, readNamed(1, 0, 40)))
	w.way(1, of(1, 5), created, book.Link{Step: 6, Kind: book.KRead, To: 1, Cap: of(1, 5)})
	if got := w.b.Known(1); !slices.Equal(got, []api.Cap{of(1, 7), of(1, 5)}) {
		t.Errorf("P24.3: Known(1): %v", got)
	}

	w = example(t)
	w.ok(by(1, readNamed(1, 0, 33)))
	w.way(1, of(1, 5))
	w = example(t)
	w.ok(write(of(1, 5), 20, []byte{0}))
	w.ok(by(1, readNamed(1, 0, 40)))
	w.way(1, of(1, 5))

	w = example(t)
	w.ok(by(1, write(of(1, 5), 50, laid(of(1, 9)))))
	w.ok(read(of(1, 5), 40, 60))
	w.ok(by(1, readNamed(1, 50, 24)))
	w.way(0, of(1, 9))
	w.way(1, of(1, 9))
}

// The kinds have the chapter's numbers.
func TestKinds(t *testing.T) {
	if book.KCreated != 1 || book.KDerived != 2 || book.KRead != 3 || book.KGift != 4 {
		t.Error("P24.4: the kinds' numbers")
	}
}

// Nothing is known of what was never noted.
func TestNothing(t *testing.T) {
	w := made(t, roomy(8), nil)
	for _, proc := range []int{-1, 0, 1, 65535, 1 << 62} {
		for _, x := range []api.Cap{{}, of(1, 5), of(-1, 0), of(1<<62, 0), of(1<<62+1, 0)} {
			w.way(proc, x)
			w.rights(x, 0, false)
			for op := -1; op < 12; op++ {
				w.shown(api.Call{Op: op, By: proc, Cap: x}, api.Cap{}, false)
				w.shown(api.Call{Op: op, By: proc, Cap: x, Given: true}, api.Cap{}, false)
			}
		}
		if got := w.b.Known(proc); len(got) != 0 {
			t.Errorf("P24.3: Known(%d): %v", proc, got)
		}
	}
}

// P24.1: each noted call is a step, also one that was refused, or is no record.
func TestSteps(t *testing.T) {
	w := made(t, roomy(8), words(5))
	for at, c := range []api.Call{create(-1), create(8), {}, {Op: 11}, by(7, exit()), spawn(3), exit(), create(8), {Op: -1}} {
		w.do(c)
		if got := w.b.Steps(); got != at+1 {
			t.Errorf("P24.1: Steps %d, want %d", got, at+1)
		}
	}
	w.holds([]int{0, 1, 7}, []api.Cap{of(1, 5), of(0, 0)})
}

// P24.1: which a revoke takes away, and which stay.
func TestRevoked(t *testing.T) {
	every := []api.Cap{of(1, 1), of(1, 2), of(1, 3), of(1, 4), of(1, 6), of(2, 2)}
	for _, l := range []struct {
		takes api.Call
		left  []api.Cap
	}{
		{revoke(of(1, 3)), []api.Cap{of(1, 1), of(1, 2), of(1, 6), of(2, 2)}},
		{revoke(of(1, 2)), []api.Cap{of(1, 1), of(1, 6), of(2, 2)}},
		{revoke(of(1, 4)), []api.Cap{of(1, 1), of(1, 2), of(1, 3), of(1, 6), of(2, 2)}},
		{revoke(of(1, 6)), []api.Cap{of(1, 1), of(1, 2), of(1, 3), of(1, 4), of(2, 2)}},
		{revoke(of(1, 1)), []api.Cap{of(2, 2)}},
		{destroy(of(1, 6)), []api.Cap{of(2, 2)}},
		{destroy(of(2, 2)), every[:5]},
	} {
		w := made(t, roomy(8), words(1, 2, 3, 4, 6, 2, 9))
		w.ok(create(30))
		w.ok(derive(of(1, 1), 31))
		w.ok(derive(of(1, 2), 31))
		w.ok(derive(of(1, 3), 29))
		w.ok(derive(of(1, 1), 28))
		w.ok(create(30))
		w.rights(of(1, 4), 29, true)
		w.ok(l.takes)
		for _, x := range every {
			_, live := w.b.Rights(x)
			if live != slices.Contains(l.left, x) {
				t.Errorf("P24.1: behind %+v: Rights(%v): %v", l.takes, x, live)
			}
			w.way(0, x, w.p.way(0, x)...)
			if !w.b.Told(0, x) {
				t.Errorf("P24.3: behind %+v: %v is no more told", l.takes, x)
			}
		}
	}
}

// P24.1: a revoke or destroy that was refused takes nothing.
func TestRefusedRevoke(t *testing.T) {
	w := made(t, roomy(8), words(1, 2, 3))
	w.ok(create(30))
	w.ok(derive(of(1, 1), 7))
	w.ok(derive(of(1, 2), 3))
	w.refused(revoke(of(1, 2)), api.ErrRights)
	w.refused(destroy(of(1, 2)), api.ErrRights)
	w.refused(revoke(of(1, 9)), api.ErrCap)
	w.refused(by(4, revoke(of(1, 1))), api.ErrCaller)
	w.refused(derive(of(1, 3), 1), api.ErrRights)
	w.rights(of(1, 1), 31, true)
	w.rights(of(1, 2), 7, true)
	w.rights(of(1, 3), 3, true)
	w.rights(api.Cap{}, 0, false)
	if w.b.Told(0, api.Cap{}) {
		t.Error("P24.3: a refused call has told something")
	}
}

// P24.1, P24.3: a word that is drawn again: the new rights and the new parent count, and the first telling.
func TestDrawnAgain(t *testing.T) {
	w := made(t, roomy(8), words(1, 2, 3, 4, 3, 5))
	w.ok(create(30))
	w.ok(derive(of(1, 1), 31))
	w.ok(derive(of(1, 2), 15))
	first := w.p.way(0, of(1, 3))
	w.ok(revoke(of(1, 3)))
	w.rights(of(1, 3), 0, false)
	w.ok(derive(of(1, 1), 31))
	w.ok(spawn())
	w.ok(by(1, derive(of(1, 4), 5))) // 3 again, a child of 4
	w.ok(derive(of(1, 3), 1))
	w.rights(of(1, 3), 5, true)
	w.way(0, of(1, 3), first...)
	w.way(1, of(1, 3), book.Link{Step: 7, Kind: book.KDerived, By: 1, To: 1, Cap: of(1, 3)})
	w.way(0, of(1, 5), append(first, book.Link{Step: 8, Kind: book.KDerived, Cap: of(1, 5)})...)
	w.ok(revoke(of(1, 2))) // its old parent
	w.rights(of(1, 3), 5, true)
	w.ok(revoke(of(1, 4)))
	w.rights(of(1, 3), 0, false)
	w.rights(of(1, 5), 0, false)
	w.rights(of(1, 1), 31, true)
}

// P24.2: each right by itself shows just its own call; all else shows nothing.
func TestShownRights(t *testing.T) {
	for rights := 1; rights <= 31; rights++ {
		w := made(t, roomy(8), words(1, 2))
		w.ok(create(30))
		w.ok(derive(of(1, 1), rights))
		w.ok(add(of(1, 2)))
		for op, need := range map[int]int{api.OpRead: 1, api.OpWrite: 2, api.OpDerive: 4, api.OpRevoke: 8, api.OpDestroy: 16} {
			want, is := of(1, 2), rights&need != 0
			if !is {
				want = api.Cap{}
			}
			w.shown(api.Call{Op: op, Cap: of(1, 2), Given: op == api.OpRead || op == api.OpWrite}, want, is)
			w.shown(api.Call{Op: op, Cap: of(1, 3), Given: true}, api.Cap{}, false)
			w.shown(api.Call{Op: op, Cap: of(2, 2), Given: true}, api.Cap{}, false)
			if op == api.OpRead || op == api.OpWrite {
				w.shown(api.Call{Op: op, Cap: of(1, 0)}, want, is)
				w.shown(api.Call{Op: op, Cap: of(2, 0)}, api.Cap{}, false)
				w.shown(api.Call{Op: op, By: 1, Cap: of(1, 0)}, api.Cap{}, false)
			}
		}
		for _, op := range []int{-1, 0, api.OpCreate, api.OpAdd, api.OpRemove, api.OpSpawn, api.OpExit, 11} {
			w.shown(api.Call{Op: op, Cap: of(1, 2)}, api.Cap{}, false)
			w.shown(api.Call{Op: op, Cap: of(1, 1), Given: true}, api.Cap{}, false)
		}
	}
}

// P24.2: what is named is the first of the caller's list that is right, as the list is then.
func TestShownNamed(t *testing.T) {
	w := made(t, roomy(8), words(1, 2, 3, 1))
	w.ok(create(30))
	w.ok(derive(of(1, 1), api.Read))
	w.ok(derive(of(1, 1), api.Write|api.Read))
	w.ok(create(30))
	for _, x := range []api.Cap{of(2, 1), of(1, 9), of(1, 2), of(1, 3), of(1, 1)} {
		w.ok(add(x))
	}
	w.shown(readNamed(1, 0, 0), of(1, 2), true)
	w.shown(writeNamed(1, 0, nil), of(1, 3), true)
	w.shown(writeNamed(2, 0, nil), of(2, 1), true)
	w.ok(spawn(4, 2, 0))
	w.shown(by(1, readNamed(1, 0, 0)), of(1, 1), true)
	w.ok(by(1, remove(0)))
	w.shown(by(1, readNamed(1, 0, 0)), of(1, 2), true)
	w.shown(by(1, writeNamed(1, 0, nil)), api.Cap{}, false)
	w.shown(by(1, writeNamed(2, 0, nil)), of(2, 1), true)
	w.refused(by(1, remove(2)), api.ErrIndex)
	w.ok(remove(2))
	w.shown(readNamed(1, 0, 0), of(1, 3), true)
	w.shown(by(1, readNamed(1, 0, 0)), of(1, 2), true)
	w.ok(by(1, exit()))
	w.shown(by(1, readNamed(1, 0, 0)), api.Cap{}, false)
	w.ok(destroy(of(1, 1)))
	w.shown(readNamed(1, 0, 0), api.Cap{}, false)
	w.shown(readNamed(2, 0, 0), of(2, 1), true)
}

// P24.5: which calls bring a password, and whose it must be.
func TestHonest(t *testing.T) {
	w := made(t, roomy(8), words(1))
	w.ok(create(30))
	w.ok(spawn())
	for op := -1; op <= 12; op++ {
		asked := op == 2 || op == 3 || op == 4 || op == 7
		for _, given := range []bool{false, true} {
			for _, x := range []api.Cap{of(1, 1), of(1, 2), of(2, 1), {}} {
				c := api.Call{Op: op, Cap: x, Given: given}
				brings := asked || given && (op == 5 || op == 6)
				w.honest(c, !brings || x == of(1, 1))
				w.honest(by(1, c), !brings)
				w.honest(by(9, c), !brings)
			}
		}
	}
	w.ok(destroy(of(1, 1)))
	w.honest(destroy(of(1, 1)), true)
	w.ok(exit())
	w.honest(destroy(of(1, 1)), true)
	w.honest(by(1, add(of(1, 1))), false)
}

// P24.3: a gift tells what its giver was told, and nothing else; those of one spawn by the gifts.
func TestGifts(t *testing.T) {
	w := made(t, roomy(8), words(1, 2, 3))
	w.ok(create(30))
	w.ok(derive(of(1, 1), 31))
	w.ok(derive(of(1, 1), 31))
	for _, x := range []api.Cap{of(1, 9), of(1, 1), of(1, 2), of(1, 3)} {
		w.ok(add(x))
	}
	w.ok(spawn(3, 0, 1, 3)) // 9 was added, but nobody was told it
	if got := w.b.Known(1); !slices.Equal(got, []api.Cap{of(1, 3), of(1, 1)}) {
		t.Errorf("P24.3: Known(1): %v", got)
	}
	w.way(1, of(1, 9))
	w.way(1, of(1, 2))
	w.shown(by(1, readNamed(1, 0, 0)), of(1, 3), true)
	w.ok(by(1, add(of(1, 2)))) // guessed: in the list, not told
	w.ok(by(1, spawn(4, 2)))
	w.way(2, of(1, 2))
	one := book.Link{Step: 1, Kind: book.KCreated, Cap: of(1, 1)}
	w.way(2, of(1, 1), one, book.Link{Step: 8, Kind: book.KGift, By: 0, To: 1, Cap: of(1, 1)}, book.Link{Step: 10, Kind: book.KGift, By: 1, To: 2, Cap: of(1, 1)})
	w.shown(by(2, readNamed(1, 0, 0)), of(1, 2), true)
	w.refused(spawn(1, 4), api.ErrIndex)
	w.ok(by(1, exit()))
	w.way(1, of(1, 1), w.p.way(1, of(1, 1))...)
	if !w.b.Told(1, of(1, 1)) {
		t.Error("P24.3: an exit has made a process untold")
	}
}

// P24.4: a derive by one who was not told what it derived from: nothing is ahead, and nothing ever comes there.
func TestDerivedUntold(t *testing.T) {
	w := made(t, roomy(8), words(1, 2, 3))
	w.ok(create(30))
	w.ok(spawn())
	w.ok(by(1, derive(of(1, 1), 31)))
	only := book.Link{Step: 3, Kind: book.KDerived, By: 1, To: 1, Cap: of(1, 2)}
	w.way(1, of(1, 2), only)
	w.ok(write(of(1, 1), 0, laid(of(1, 1))))
	w.ok(by(1, read(of(1, 2), 0, 24)))
	w.way(1, of(1, 1), book.Link{Step: 1, Kind: book.KCreated, Cap: of(1, 1)}, book.Link{Step: 5, Kind: book.KRead, By: 0, To: 1, Cap: of(1, 1)})
	w.way(1, of(1, 2), only)
	w.ok(by(1, derive(of(1, 1), 1)))
	w.way(1, of(1, 3), append(w.p.way(1, of(1, 1)), book.Link{Step: 6, Kind: book.KDerived, By: 1, To: 1, Cap: of(1, 3)})...)
	w.way(0, of(1, 2))
}

// P24.3: who was told once is not told again, by no other way.
func TestFirstCounts(t *testing.T) {
	w := made(t, roomy(8), words(1, 2))
	w.ok(create(60))
	w.ok(add(of(1, 1)))
	w.ok(spawn(0))
	w.ok(spawn())
	was := w.p.way(1, of(1, 1))
	w.ok(write(of(1, 1), 0, laid(of(1, 1))))
	w.ok(by(1, readNamed(1, 0, 60)))
	w.ok(readNamed(1, 0, 60))
	w.way(1, of(1, 1), was...)
	w.way(0, of(1, 1), book.Link{Step: 1, Kind: book.KCreated, Cap: of(1, 1)})
	if a, b := w.b.Known(0), w.b.Known(1); len(a) != 1 || len(b) != 1 {
		t.Errorf("P24.3: Known: %v, %v", a, b)
	}
}

// P24.3: bytes that are no capability's, as its object's number is too great, tell nothing.
func TestNoCapability(t *testing.T) {
	w := made(t, roomy(128), []api.Word{{Hi: ^uint64(0), Lo: ^uint64(0)}})
	root := w.ok(create(100)).Cap
	w.ok(write(root, 0, bytes.Repeat([]byte{255}, 48)))
	w.ok(read(root, 0, 100))
	w.ok(write(root, 40, laid(root)))
	w.ok(spawn())
	w.ok(by(1, read(root, 0, 100)))
	if got := w.b.Known(1); !slices.Equal(got, []api.Cap{root}) {
		t.Errorf("P24.3: Known(1): %v", got)
	}
	w.holds([]int{0, 1}, []api.Cap{root, {}})
}
