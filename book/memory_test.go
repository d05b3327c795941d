package book_test

import (
	"bytes"
	"slices"
	"testing"

	"sesame/api"
	"sesame/book"
)

// spoil writes over a list and its spare room.
func spoil[T any](list []T, by T) {
	for at := range list[:cap(list)] {
		list[:cap(list)][at] = by
	}
}

// spare gives a list with spare room, which is filled.
func spare[T any](list []T, by T) []T {
	out := append(slices.Clone(list), slices.Repeat([]T{by}, 9)...)
	return out[:len(list)]
}

// P24.6: what is handed in stays as it is, its spare room too, and is not kept.
func TestHandedIn(t *testing.T) {
	w := example(t)
	data, gifts := spare(laid(of(1, 5), of(1, 7)), 0xee), spare([]int{0, 0}, 77)
	calls := []api.Call{by(0, write(of(1, 5), 40, data)), spawn(gifts...), by(1, readNamed(1, 0, 100))}
	calls[1].Gifts = gifts
	for _, c := range calls {
		r := w.k.Do(c)
		r.Data = spare(r.Data, 0xee)
		before := []any{slices.Clone(c.Data[:cap(c.Data)]), slices.Clone(c.Gifts[:cap(c.Gifts)]), slices.Clone(r.Data[:cap(r.Data)])}
		w.p.note(c, r)
		w.b.Shown(c)
		w.b.Honest(c)
		w.b.Note(c, r)
		if !bytes.Equal(c.Data[:cap(c.Data)], before[0].([]byte)) || !slices.Equal(c.Gifts[:cap(c.Gifts)], before[1].([]int)) || !bytes.Equal(r.Data[:cap(r.Data)], before[2].([]byte)) {
			t.Errorf("P24.6: %+v has been changed", c)
		}
		spoil(c.Data, 0xaa)
		spoil(c.Gifts, 99)
		spoil(r.Data, 0xaa)
		w.holds([]int{0, 1, 2}, []api.Cap{of(1, 5), of(1, 7)})
		w.asks(by(2, readNamed(1, 0, 1)))
	}
	if got := w.b.Known(1); !slices.Equal(got, []api.Cap{of(1, 7), of(1, 5)}) {
		t.Errorf("P24.6: Known(1): %v", got)
	}
}

// P24.6: what is answered is new memory: to write over it changes nothing, and later steps do not change it.
func TestAnswered(t *testing.T) {
	w := example(t)
	w.ok(by(1, readNamed(1, 0, 40)))
	known, way := w.b.Known(1), first(w.b.Way(1, of(1, 5)))
	keptKnown, keptWay := slices.Clone(known), slices.Clone(way)
	w.ok(write(of(1, 5), 60, laid(of(1, 5))))
	w.ok(by(1, derive(of(1, 5), 1)))
	w.ok(by(1, derive(of(1, 5), 1)))
	if !slices.Equal(known, keptKnown) || !slices.Equal(way, keptWay) {
		t.Errorf("P24.6: %v, %v", known, way)
	}
	for range 3 {
		for proc := range 2 {
			spoil(w.b.Known(proc), of(9, 9))
			for _, x := range w.p.known(proc) {
				spoil(first(w.b.Way(proc, x)), book.Link{Step: 99})
			}
		}
		w.holds([]int{0, 1}, []api.Cap{of(1, 5), of(1, 7), of(1, 11), of(1, 13), of(9, 9)})
		w.ok(by(1, add(of(1, 5))))
		w.ok(by(1, spawn(1)))
	}
}

func first[A, B any](a A, _ B) A { return a }

// P24.6: two books hear of nothing but their own.
func TestTwoBooks(t *testing.T) {
	one, other := example(t), made(t, roomy(8), words(5))
	other.ok(create(100))
	other.holds([]int{0, 1}, []api.Cap{of(1, 5), of(1, 7)})
	one.holds([]int{0, 1}, []api.Cap{of(1, 5), of(1, 7)})
	if other.b.Steps() != 1 || one.b.Steps() != 5 {
		t.Errorf("P24.1: Steps: %d, %d", one.b.Steps(), other.b.Steps())
	}
}
