package slots

import (
	"math/rand"
	"testing"

	"sesame/api"
	"sesame/mix"
)

// count tells how many places of a kind there are.
func (t *Table[V]) count(k kind) int {
	n := 0
	for _, p := range t.places {
		if p.kind == k {
			n++
		}
	}
	return n
}

// wantInside holds the places against what the chapter says of them, and against the table's own counts.
func wantInside(t *testing.T, l *Table[int]) {
	t.Helper()
	if l.count(used) != l.live || l.count(free) != l.spare || l.count(loose) != 0 {
		t.Fatalf("P8.6: used %d, free %d, loose %d; counted %d, %d", l.count(used), l.count(free), l.count(loose), l.live, l.spare)
	}
	for at, p := range l.places {
		if p.kind != used {
			if p.key != (api.Cap{}) || p.value != 0 {
				t.Fatalf("P8.4: place %d keeps %v of what was dropped", at, p)
			}
			continue
		}
		from := int(mix.Hash(p.key.Obj, p.key.Pass, l.knob) % uint64(len(l.places)))
		for ; from != at; from = (from + 1) % len(l.places) {
			if l.places[from].kind == free {
				t.Fatalf("P8.6: place %d, tried before %d for %v, is free", from, at, p.key)
			}
		}
	}
}

func newInside(t *testing.T, most, knob int) *Table[int] {
	t.Helper()
	l, code := New[int](most, knob)
	if code != api.OK {
		t.Fatalf("P8.1: New(%d, %d): %d", most, knob, code)
	}
	return l
}

func TestPlacesOfEachSize(t *testing.T) { // P8.1
	for most := 1; most <= api.MaxEntries; most++ {
		n := len(newInside(t, most, 0).places)
		if n&(n-1) != 0 || n < 2*most || n/2 >= 2*most {
			t.Fatalf("P8.1: %d places for at most %d", n, most)
		}
	}
}

// TestPlacesInAnyPast: a place that was dropped stays a tombstone, till none is one any more; and the places stay where they are.
func TestPlacesInAnyPast(t *testing.T) { // P8.6
	r := rand.New(rand.NewSource(8))
	for _, most := range []int{1, 2, 3, 4, 6, 16, 33, 100} {
		for _, knob := range []int{0, 1, 3, 64} {
			l := newInside(t, most, knob)
			start := &l.places[0]
			remade := 0
			for range 200 + 30*most {
				before, spare := l.count(tombstone), l.count(free)
				c := api.Cap{Obj: r.Intn(3), Pass: api.Word{Lo: uint64(r.Intn(most + 2))}}
				want := before
				var done bool
				if r.Intn(2) == 0 {
					done = l.Put(c, 1+r.Intn(9)) == api.OK
				} else if done = l.Drop(c); done {
					want++
				}
				if done && want == before && 4*spare < len(l.places) {
					want = 0
					remade++
				}
				if got := l.count(tombstone); got != want {
					t.Fatalf("P8.6: most %d, knob %d: %d tombstones, not %d", most, knob, got, want)
				}
				wantInside(t, l)
			}
			if remade == 0 || &l.places[0] != start {
				t.Fatalf("P8.6: most %d, knob %d: made anew %d times, in place: %v", most, knob, remade, &l.places[0] == start)
			}
		}
	}
}

// TestNoPlaceFree: with all places in use or tombstones each call ends.
func TestNoPlaceFree(t *testing.T) { // P8.6
	of := func(n int) api.Cap { return api.Cap{Obj: n, Pass: api.Word{Lo: uint64(n)}} }
	for _, knob := range []int{0, 1, 64} {
		l := newInside(t, 1, knob)
		l.Put(of(1), 1)
		l.Drop(of(1))
		l.Put(of(2), 2)
		if l.count(free) != 0 || l.count(tombstone) != 1 {
			t.Fatalf("P8.6: %d places are free, %d tombstones", l.count(free), l.count(tombstone))
		}
		if _, there := l.Get(of(1)); there || l.Drop(of(3)) || l.Put(of(1), 1) != api.ErrEntry || l.Put(of(2), 1) != api.ErrThere {
			t.Fatalf("P8.6: knob %d: a table of one place in use", knob)
		}
		if !l.Drop(of(2)) || l.count(tombstone) != 2 || l.Drop(of(2)) || l.Put(of(3), 3) != api.OK {
			t.Fatalf("P8.6: knob %d: a table of tombstones alone", knob)
		}
		if v, there := l.Get(of(3)); v != 3 || !there || l.Len() != 1 {
			t.Fatalf("P8.6: knob %d: %d, %v", knob, v, there)
		}
		wantInside(t, l)
	}
}
