package book_test

import (
	"slices"
	"testing"

	"sesame/api"
	"sesame/book"
)

// two gives a world in which 0 was told {1, 1} and {1, 2}, objects have 4096 bytes, and 1 and 2 were told nothing.
func two(t testing.TB) *world {
	c := roomy(8)
	c.Pages = 64
	w := made(t, c, words(1, 2, 3, 4, 5))
	w.ok(create(4096))
	w.ok(derive(of(1, 1), 31))
	w.ok(spawn())
	w.ok(spawn())
	return w
}

// reads has 1 read, and holds whether it was told {1, 1} by that.
func (w *world) reads(off, n int, want bool) {
	w.t.Helper()
	w.ok(by(1, read(of(1, 2), off, n)))
	if got := w.b.Told(1, of(1, 1)); got != want {
		w.t.Errorf("P24.3: a read of %d from %d: %v", n, off, got)
	}
	w.holds([]int{0, 1, 2}, []api.Cap{of(1, 1), of(1, 2)})
}

// P24.3: a read tells what lies wholly within its bytes, at all places of an object.
func TestReadEdges(t *testing.T) {
	for _, place := range []int{0, 1, 7, 63, 2000, 4071, 4072} {
		for _, l := range []struct {
			ahead, behind int // how many bytes more are read
			want          bool
		}{{0, 0, true}, {9, 9, true}, {-1, 0, false}, {-1, 90, false}, {0, -1, false}, {90, -1, false}, {-24, 30, false}, {30, -24, false}, {1, 0, true}, {0, 1, true}} {
			off, end := place-l.ahead, place+24+l.behind
			if off < 0 || end > 4096 {
				continue
			}
			w := two(t)
			w.ok(write(of(1, 1), place, laid(of(1, 1))))
			w.reads(off, end-off, l.want)
		}
	}
	w := two(t)
	w.ok(write(of(1, 1), 500, laid(of(1, 1))))
	w.reads(500, 0, false)
	w.reads(0, 523, false)
	w.reads(501, 1024, false)
	w.reads(0, 1024, true)
}

// P24.3: a later write that covers one of the places, if only with the same byte, makes it no more laid whole; one beside them, of no byte, or refused does not.
func TestWrittenOver(t *testing.T) {
	whole := laid(of(1, 1))
	for at := -3; at < 28; at++ {
		w := two(t)
		w.ok(write(of(1, 1), 100, whole))
		same := byte(0)
		if at >= 0 && at < 24 {
			same = whole[at]
		}
		w.ok(write(of(1, 1), 100+at, []byte{same}))
		w.reads(90, 90, at < 0 || at >= 24)
	}
	for _, l := range []struct {
		off, n int
		want   bool
	}{{0, 100, true}, {0, 101, false}, {124, 900, true}, {123, 900, false}, {50, 1000, false}, {110, 4, false}} {
		w := two(t)
		w.ok(write(of(1, 1), 100, whole))
		w.ok(write(of(1, 2), l.off, make([]byte, l.n)))
		w.reads(0, 1024, l.want)
	}
	w := two(t)
	w.ok(write(of(1, 1), 100, whole))
	for at := range 24 {
		w.ok(write(of(1, 1), 100+at, nil))
		w.refused(write(of(1, 9), 100+at, []byte{1}), api.ErrCap)
	}
	w.reads(90, 90, true)
	w = two(t)
	w.ok(write(of(1, 1), 4072, whole))
	w.refused(write(of(1, 1), 4080, make([]byte, 17)), api.ErrRange)
	w.reads(4072, 24, true)
}

// P24.3: what two writes laid together is not laid whole; the inside of a longer write is, also when its ends were written over.
func TestWholeByOne(t *testing.T) {
	whole := laid(of(1, 1))
	for cut := 1; cut < 24; cut++ {
		w := two(t)
		w.ok(write(of(1, 1), 300, whole[:cut]))
		w.ok(write(of(1, 1), 300+cut, whole[cut:]))
		w.reads(290, 50, false)
		w.ok(write(of(1, 1), 300, whole[:cut]))
		w.reads(290, 50, false)
		w.ok(write(of(1, 1), 300, whole))
		w.reads(290, 50, true)
	}
	w := two(t)
	w.ok(write(of(1, 1), 300, slices.Concat([]byte{8, 8, 8}, whole, []byte{9, 9, 9})))
	w.ok(write(of(1, 1), 290, make([]byte, 13)))
	w.ok(write(of(1, 1), 327, make([]byte, 13)))
	w.reads(290, 50, true)
}

// P24.3: who writes must have been told it ahead of the write.
func TestWriterTold(t *testing.T) {
	whole := laid(of(1, 1))
	w := two(t)
	w.ok(by(2, write(of(1, 2), 0, whole))) // guessed
	w.reads(0, 100, false)
	w.ok(write(of(1, 1), 200, whole))
	w.ok(by(2, read(of(1, 2), 200, 24))) // told now, too late for the write
	w.reads(0, 100, false)
	w.ok(by(2, write(of(1, 2), 1, whole)))
	w.reads(0, 100, true)
	w.way(1, of(1, 1), book.Link{Step: 1, Kind: book.KCreated, Cap: of(1, 1)}, book.Link{Step: 8, Kind: book.KRead, By: 0, To: 2, Cap: of(1, 1)}, book.Link{Step: 11, Kind: book.KRead, By: 2, To: 1, Cap: of(1, 1)})

	w = two(t)
	w.ok(write(of(1, 1), 0, whole))
	w.ok(by(2, write(of(1, 2), 0, whole))) // the same bytes, laid by one who was not told
	w.reads(0, 100, false)
	w.ok(write(of(1, 2), 0, whole))
	w.reads(0, 100, true)
}

// P24.3, P24.4: a capability at two places of a read: the first of those that tell counts.
func TestTwoPlaces(t *testing.T) {
	whole := laid(of(1, 1))
	w := two(t)
	w.ok(write(of(1, 1), 200, whole))
	w.ok(by(2, read(of(1, 2), 200, 24)))
	w.ok(by(2, write(of(1, 2), 100, whole)))
	w.ok(by(1, write(of(1, 2), 40, whole)))
	w.reads(0, 1000, true)
	if way := w.p.way(1, of(1, 1)); len(way) != 3 || way[2].By != 2 {
		t.Errorf("P24.4: %v", way)
	}
}

// P24.3: the tellings of one read stand by the places; of one write there may be many, and they may lie over each other.
func TestManyInOne(t *testing.T) {
	w := made(t, roomy(128), []api.Word{{Lo: 2, Hi: 77}, {Hi: 5, Lo: 77}, {Lo: 9}})
	a, b, c := w.ok(create(200)).Cap, w.ok(create(200)).Cap, w.ok(create(200)).Cap
	w.ok(spawn())
	w.ok(write(a, 30, laid(c)))
	over := laid(a)
	over = append(over, laid(b)[16:]...) // the last 16 bytes of a are the first of b
	w.ok(write(a, 61, over))
	w.ok(write(a, 100, laid(b, c)))
	w.ok(by(1, read(a, 54, 39)))
	if got := w.b.Known(1); !slices.Equal(got, []api.Cap{a, b}) {
		t.Errorf("P24.3: Known(1): %v", got)
	}
	w.ok(by(1, read(a, 0, 200)))
	if got := w.b.Known(1); !slices.Equal(got, []api.Cap{a, b, c}) {
		t.Errorf("P24.3: Known(1): %v", got)
	}
	w.ok(spawn())
	w.ok(write(a, 85, []byte{1})) // b's alone
	w.ok(by(2, read(a, 0, 200)))
	if got := w.b.Known(2); !slices.Equal(got, []api.Cap{c, a, b}) {
		t.Errorf("P24.3: Known(2): %v", got)
	}
	w.holds([]int{0, 1, 2}, []api.Cap{a, b, c})
}

// P24.3: objects are told apart, also when one comes behind another that is gone; what is no more live can be told too.
func TestObjects(t *testing.T) {
	w := made(t, roomy(8), words(1, 2, 3, 4))
	w.ok(create(100))
	w.ok(create(100))
	w.ok(spawn())
	w.ok(write(of(1, 1), 10, laid(of(1, 1))))
	w.ok(write(of(1, 1), 50, laid(of(2, 2))))
	w.ok(by(1, read(of(2, 2), 0, 100)))
	if got := w.b.Known(1); len(got) != 0 {
		t.Errorf("P24.3: Known(1): %v", got)
	}
	w.ok(write(of(2, 2), 10, laid(of(1, 1))))
	w.ok(destroy(of(1, 1)))
	w.ok(create(100))
	w.ok(by(1, read(of(3, 3), 0, 100)))
	if got := w.b.Known(1); len(got) != 0 {
		t.Errorf("P24.3: Known(1): %v", got)
	}
	w.refused(by(1, read(of(1, 1), 0, 100)), api.ErrCap)
	w.ok(by(1, read(of(2, 2), 0, 100)))
	if got := w.b.Known(1); !slices.Equal(got, []api.Cap{of(1, 1)}) {
		t.Errorf("P24.3: Known(1): %v", got)
	}
	w.rights(of(1, 1), 0, false)
	w.holds([]int{0, 1}, []api.Cap{of(1, 1), of(2, 2), of(3, 3)})
}

// P24.3: named reads and writes tell as given ones do.
func TestNamedTell(t *testing.T) {
	w := two(t)
	w.ok(add(of(1, 1)))
	w.ok(by(1, add(of(1, 2))))
	w.ok(writeNamed(1, 33, laid(of(1, 1))))
	w.ok(by(1, readNamed(1, 30, 30)))
	w.way(1, of(1, 1), book.Link{Step: 1, Kind: book.KCreated, Cap: of(1, 1)}, book.Link{Step: 8, Kind: book.KRead, By: 0, To: 1, Cap: of(1, 1)})
	w.way(1, of(1, 2)) // added, and used, but never told
}
