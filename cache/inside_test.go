package cache

import (
	"math/rand"
	"testing"

	"sesame/api"
)

// P18.4: behind a turn a cache is as after New, but for its epoch and its counts: nothing of what was known is kept.
func TestTurnKeepsNothing(t *testing.T) {
	chance := rand.New(rand.NewSource(18))
	for n := range 600 {
		k, _ := New(1+chance.Intn(api.MaxSets), 1+chance.Intn(api.MaxWays), 64)
		for range n {
			k.Put(api.Cap{Obj: chance.Intn(99), Pass: api.Word{Lo: chance.Uint64()}}, n)
		}
		k.Turn()
		fresh, _ := New(k.sets, k.ways, k.knob)
		fresh.epoch = 1
		if *k != *fresh {
			t.Fatalf("P18.4: behind %d puts and a turn it keeps %v", n, k.rows)
		}
	}
}

// P18.3: what was put out is kept nowhere, nor is anything twice, nor outside the sets and ways that there are.
func TestPutOutIsNotKept(t *testing.T) {
	chance := rand.New(rand.NewSource(81))
	for range 300 {
		sets, ways := chance.Intn(api.MaxSets+1), 1+chance.Intn(api.MaxWays)
		k, _ := New(sets, ways, 64)
		for range chance.Intn(200) {
			k.Put(api.Cap{Obj: chance.Intn(3), Pass: api.Word{Lo: uint64(chance.Intn(30))}}, 1)
		}
		times := map[api.Cap]int{}
		for s, row := range k.rows {
			for w, p := range row {
				if p != (place{}) && (s >= sets || w >= ways) {
					t.Fatalf("P18.3: %v is kept in a place that there isn't: %d, %d", p, s, w)
				}
				if p.known {
					times[p.c]++
				}
			}
		}
		for c, n := range times {
			if _, known := k.Get(c); n != 1 || !known {
				t.Fatalf("P18.3: %v is kept %d times, known: %v", c, n, known)
			}
		}
	}
}
