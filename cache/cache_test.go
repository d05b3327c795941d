package cache_test

import (
	"math"
	"math/rand"
	"testing"

	"sesame/api"
	"sesame/cache"
	"sesame/mix"
)

type laid struct {
	c      api.Cap
	rights int
}

// model: what a cache should know, as P18.6 says it: all that was put in this epoch, in that order; of each set the last unlike ones are known.
type model struct {
	sets, ways, knob int
	puts             []laid
	epoch            int
	yes, no          int
}

func (m *model) set(c api.Cap) uint64 {
	return mix.Hash(c.Obj, c.Pass, m.knob) % uint64(m.sets)
}

func (m *model) known(c api.Cap) (int, bool) {
	if m.sets == 0 {
		return 0, false
	}
	later := map[api.Cap]int{} // of c's set, put behind c's last put
	for i := len(m.puts) - 1; i >= 0; i-- {
		if m.puts[i].c == c {
			return m.puts[i].rights, true
		}
		if m.set(m.puts[i].c) == m.set(c) {
			later[m.puts[i].c]++
		}
		if len(later) == m.ways {
			return 0, false
		}
	}
	return 0, false
}

func (m *model) get(c api.Cap) (int, bool) {
	rights, ok := m.known(c)
	if ok {
		m.yes++
	} else {
		m.no++
	}
	return rights, ok
}

func (m *model) put(c api.Cap, rights int) { m.puts = append(m.puts, laid{c, rights}) }

func (m *model) turn() {
	m.puts = nil
	m.epoch++
	if m.epoch == 256 {
		m.epoch = 0
	}
}

func made(t *testing.T, sets, ways, knob int) *cache.Cache {
	t.Helper()
	k, code := cache.New(sets, ways, knob)
	if k == nil || code != api.OK {
		t.Fatalf("P18.1: New(%d, %d, %d): %v, %d", sets, ways, knob, k, code)
	}
	return k
}

func pair(t *testing.T, sets, ways, knob int) (*cache.Cache, *model) {
	t.Helper()
	return made(t, sets, ways, knob), &model{sets: sets, ways: ways, knob: knob}
}

func knows(t *testing.T, k *cache.Cache, c api.Cap, rights int) {
	t.Helper()
	if got, ok := k.Get(c); got != rights || !ok {
		t.Errorf("P18.2: Get(%v): %d, %v, want %d, true", c, got, ok, rights)
	}
}

func lacks(t *testing.T, k *cache.Cache, cs ...api.Cap) {
	t.Helper()
	for _, c := range cs {
		if got, ok := k.Get(c); got != 0 || ok {
			t.Errorf("P18.2: Get(%v): %d, %v, want 0, false", c, got, ok)
		}
	}
}

func counts(t *testing.T, k *cache.Cache, yes, no int) {
	t.Helper()
	if y, n := k.Hits(); y != yes || n != no {
		t.Errorf("P18.5: Hits: %d, %d, want %d, %d", y, n, yes, no)
	}
}

func epoch(t *testing.T, k *cache.Cache, want int) {
	t.Helper()
	if k.Epoch() != want {
		t.Errorf("P18.4: Epoch: %d, want %d", k.Epoch(), want)
	}
}

func word(lo uint64) api.Cap { return api.Cap{Obj: 1, Pass: api.Word{Lo: lo}} }

// some: capabilities of every kind: none is looked up. Neighbours part in one of the three numbers.
func some() []api.Cap {
	top := ^uint64(0)
	return []api.Cap{
		{}, {Obj: 1}, {Obj: 1, Pass: api.Word{Lo: 5}}, {Obj: 1, Pass: api.Word{Hi: 5}}, {Obj: 2, Pass: api.Word{Lo: 5}}, {Obj: 1, Pass: api.Word{Hi: 5, Lo: 5}},
		{Pass: api.Word{Hi: top, Lo: top}}, {Obj: -1, Pass: api.Word{Hi: top}}, {Obj: -1}, {Obj: math.MinInt}, {Obj: math.MaxInt, Pass: api.Word{Lo: top}}, {Obj: api.MaxId + 1},
	}
}

// same: whether a cache tells what the model knows, of all capabilities that play a part.
func same(t *testing.T, k *cache.Cache, m *model, cs []api.Cap) {
	t.Helper()
	for _, c := range cs {
		got, ok := k.Get(c)
		if want, wantOk := m.get(c); got != want || ok != wantOk {
			t.Fatalf("P18.2, P18.6: %d sets of %d, knob %d, behind %v: Get(%v): %d, %v, want %d, %v", m.sets, m.ways, m.knob, m.puts, c, got, ok, want, wantOk)
		}
	}
	if k.Epoch() != m.epoch {
		t.Fatalf("P18.4: Epoch: %d, want %d", k.Epoch(), m.epoch)
	}
	if yes, no := k.Hits(); yes != m.yes || no != m.no {
		t.Fatalf("P18.5: Hits: %d, %d, want %d, %d", yes, no, m.yes, m.no)
	}
}

// P18.1
func TestConfigsThatMayNotBe(t *testing.T) {
	wrong := []int{math.MinInt, math.MinInt + 1, -1 << 32, -256, -2, -1, 65, 66, 128, 255, 256, 1 << 32, 1<<32 + 1, math.MaxInt - 1, math.MaxInt}
	refused := func(sets, ways, knob int) {
		t.Helper()
		if k, code := cache.New(sets, ways, knob); k != nil || code != api.ErrConfig {
			t.Errorf("P18.1: New(%d, %d, %d): %v, %d, want nil, ErrConfig", sets, ways, knob, k, code)
		}
	}
	for _, n := range append([]int{17, 18, 64}, wrong...) {
		refused(n, 1, 0)
		refused(n, 4, 64)
	}
	for _, n := range append([]int{0, 5, 6, 16}, wrong...) {
		refused(0, n, 0)
		refused(16, n, 64)
	}
	for _, n := range wrong {
		refused(0, 1, n)
		refused(16, 4, n)
		for _, o := range wrong {
			refused(n, o, 0)
			refused(1, n, o)
			refused(n, 1, o)
			refused(n, o, -1)
		}
	}
}

// P18.1
func TestConfigsThatMayBe(t *testing.T) {
	for sets := 0; sets <= api.MaxSets; sets++ {
		for ways := 1; ways <= api.MaxWays; ways++ {
			for knob := 0; knob <= api.MaxKnob; knob++ {
				k := made(t, sets, ways, knob)
				epoch(t, k, 0)
				counts(t, k, 0, 0)
				lacks(t, k, some()...)
				counts(t, k, 0, len(some()))
			}
		}
	}
}

// P18.2 to P18.5: the chapter's examples.
func TestExamples(t *testing.T) {
	k := made(t, 1, 2, 64)
	a, b, c := word(1), word(2), word(3)
	lacks(t, k, a)
	k.Put(a, 3)
	k.Put(b, 1)
	knows(t, k, a, 3)
	k.Put(a, 5)
	knows(t, k, a, 5)
	k.Put(c, 1)
	lacks(t, k, b)
	knows(t, k, a, 5)
	knows(t, k, c, 1)
	counts(t, k, 4, 2)
	k.Turn()
	epoch(t, k, 1)
	lacks(t, k, a)
	for range 255 {
		k.Turn()
	}
	epoch(t, k, 0)
	lacks(t, k, a)

	k = made(t, 0, 1, 0)
	k.Put(a, 1)
	lacks(t, k, a)
	k = made(t, 4, 1, 0)
	for i, x := range some() {
		k.Put(x, i)
		knows(t, k, x, i)
		lacks(t, k, some()[:i]...)
	}
}

// P18.2: a Get changes nothing but Hits: none makes a place younger, and none lays in what it did not find.
func TestGetChangesNoAge(t *testing.T) {
	a, b, c := word(1), word(2), word(3)
	k := made(t, 1, 2, 64)
	k.Put(a, 1)
	k.Put(b, 2)
	for range 9 {
		knows(t, k, a, 1)
		lacks(t, k, c)
	}
	k.Put(c, 3)
	lacks(t, k, a)
	knows(t, k, b, 2)
	knows(t, k, c, 3)
	counts(t, k, 11, 10)
}

// P18.2, P18.3: the rights are plain numbers: 0 is known too.
func TestRightsAreAnyNumbers(t *testing.T) {
	for _, rights := range []int{0, 1, 31, 32, -1, -2, 255, 1 << 40, math.MinInt, math.MaxInt} {
		for ways := 1; ways <= api.MaxWays; ways++ {
			for _, c := range some() {
				k := made(t, 3, ways, 64)
				k.Put(c, rights)
				knows(t, k, c, rights)
				k.Put(c, 7)
				k.Put(c, rights)
				knows(t, k, c, rights)
				counts(t, k, 2, 0)
			}
		}
	}
}

// P18.2: capabilities are held against each other whole; the zero one is known only if it was put.
func TestUnlikeCapabilities(t *testing.T) {
	for i, c := range some() {
		k := made(t, 1, 4, 64)
		k.Put(c, 9)
		for j, o := range some() {
			if i == j {
				knows(t, k, o, 9)
			} else {
				lacks(t, k, o)
			}
		}
	}
}

// P18.3: put again, a capability takes no second place, wherever it stood.
func TestPutAgain(t *testing.T) {
	for ways := 1; ways <= api.MaxWays; ways++ {
		for again := range ways {
			k := made(t, 1, ways, 64)
			for i := range ways {
				k.Put(word(uint64(i)), i)
			}
			for n := range 3 {
				k.Put(word(uint64(again)), 100+n)
			}
			for i := range ways {
				if i == again {
					knows(t, k, word(uint64(i)), 102)
				} else {
					knows(t, k, word(uint64(i)), i)
				}
			}
			k.Put(word(99), 99)
			oldest := 0
			if again == 0 && ways > 1 {
				oldest = 1
			}
			lacks(t, k, word(uint64(oldest)))
			knows(t, k, word(99), 99)
			counts(t, k, ways+1, 1)
		}
	}
}

// P18.2, P18.3: with no set nothing is ever known, and each Get is counted as false.
func TestNoSets(t *testing.T) {
	for ways := 1; ways <= api.MaxWays; ways++ {
		for _, knob := range []int{0, 1, 64} {
			k := made(t, 0, ways, knob)
			for i, c := range some() {
				k.Put(c, i+1)
				lacks(t, k, c)
				k.Turn()
				lacks(t, k, c)
			}
			epoch(t, k, len(some()))
			counts(t, k, 0, 2*len(some()))
		}
	}
}

// P18.4: what was put in an epoch is known in that one alone, not in the next of the same number either.
func TestEpochs(t *testing.T) {
	for _, sets := range []int{1, 3, 16} {
		for ways := 1; ways <= api.MaxWays; ways++ {
			for _, start := range []int{0, 1, 2, 127, 128, 254, 255} {
				k, m := pair(t, sets, ways, 64)
				for range start {
					k.Turn()
					m.turn()
				}
				for i, c := range some() {
					k.Put(c, i)
					m.put(c, i)
				}
				same(t, k, m, some())
				for range 600 {
					k.Turn()
					m.turn()
					same(t, k, m, some())
				}
			}
		}
	}
}

// P18.4: the free places of a new epoch are as those after New: of no age.
func TestPlacesAreFreeBehindEachTurn(t *testing.T) {
	k, m := pair(t, 1, 4, 64)
	cs := some()
	for n := range 1100 {
		for i := range n % 4 {
			c := cs[(n+i)%len(cs)]
			k.Put(c, n+i)
			m.put(c, n+i)
			same(t, k, m, cs)
		}
		k.Turn()
		m.turn()
		same(t, k, m, cs)
	}
}

// P18.5: Turn and Put leave the counts.
func TestHitsOutliveEpochs(t *testing.T) {
	k := made(t, 1, 1, 64)
	a := word(1)
	for n := range 700 {
		counts(t, k, n, 2*n)
		lacks(t, k, a)
		k.Put(a, n)
		knows(t, k, a, n)
		k.Turn()
		lacks(t, k, a)
	}
}

// ofSets: n capabilities of each set.
func ofSets(m *model, n int) [][]api.Cap {
	out := make([][]api.Cap, m.sets)
	for lo := uint64(0); ; lo++ {
		c := word(lo)
		s := m.set(c)
		if len(out[s]) < n {
			out[s] = append(out[s], c)
		}
		full := true
		for _, cs := range out {
			full = full && len(cs) == n
		}
		if full {
			return out
		}
	}
}

// P18.6: no set pushes anything out of another; all sets filled know all that they have room for.
func TestSetsAreApart(t *testing.T) {
	for sets := 1; sets <= api.MaxSets; sets++ {
		for ways := 1; ways <= api.MaxWays; ways++ {
			for _, knob := range []int{5, 33, 64} {
				k, m := pair(t, sets, ways, knob)
				of := ofSets(m, ways+2)
				for i := range ways + 2 {
					for _, cs := range of {
						k.Put(cs[i], i)
					}
				}
				for _, cs := range of {
					lacks(t, k, cs[0], cs[1])
					for i := 2; i < ways+2; i++ {
						knows(t, k, cs[i], i)
					}
				}
				for range 3 {
					for _, c := range of[0] {
						k.Put(c, 77)
					}
				}
				for _, cs := range of[1:] {
					for i := 2; i < ways+2; i++ {
						knows(t, k, cs[i], i)
					}
				}
			}
		}
	}
}

// P18.6, Words: the set is that of the hash's lowest bits. The numbers are those of chapter 5's examples: ..8f, ..e0, ..d6.
func TestSetsByTheHash(t *testing.T) {
	a, b, c := api.Cap{Obj: 1, Pass: api.Word{Lo: 5}}, api.Cap{Obj: 1, Pass: api.Word{Hi: 5}}, api.Cap{Obj: -1}
	tells := func(sets, knob int, first, second api.Cap, apart bool) {
		t.Helper()
		k := made(t, sets, 1, knob)
		k.Put(first, 1)
		k.Put(second, 2)
		knows(t, k, second, 2)
		if apart {
			knows(t, k, first, 1)
		} else {
			lacks(t, k, first)
		}
	}
	tells(2, 64, a, b, true)
	tells(2, 64, b, c, false)
	tells(2, 1, a, b, true)
	tells(2, 1, b, c, false)
	tells(2, 0, a, b, false)
	tells(4, 64, b, c, true)
	tells(4, 1, b, c, false)
	tells(4, 2, b, c, true)
	tells(16, 64, a, c, true)
	tells(16, 64, b, c, true)
}

// P18.6: with one set and one way just the last is known.
func TestOnePlace(t *testing.T) {
	chance := rand.New(rand.NewSource(18))
	k := made(t, 1, 1, 64)
	cs := some()
	for n := range 3000 {
		last := cs[chance.Intn(len(cs))]
		k.Put(last, n)
		for _, c := range cs {
			if c == last {
				knows(t, k, c, n)
			} else {
				lacks(t, k, c)
			}
		}
	}
}

// P18.2 to P18.6: every short past of Puts and Turns, in small caches.
func TestEveryShortPast(t *testing.T) {
	cs := []api.Cap{{}, word(1), word(2), {Obj: 2, Pass: api.Word{Lo: 1}}, {Obj: -3, Pass: api.Word{Hi: 1}}}
	for _, size := range [][3]int{{0, 2, 64}, {1, 1, 64}, {1, 2, 0}, {1, 3, 64}, {1, 4, 8}, {2, 1, 64}, {2, 2, 64}, {3, 1, 1}, {16, 1, 64}} {
		for past := range 7 * 7 * 7 * 7 * 7 * 7 {
			k, m := pair(t, size[0], size[1], size[2])
			for n := range 6 {
				switch way := past % 7; way {
				case 5:
					k.Turn()
					m.turn()
				case 6:
					k.Get(cs[n%5])
					m.get(cs[n%5])
				default:
					k.Put(cs[way], n)
					m.put(cs[way], n)
				}
				past /= 7
			}
			same(t, k, m, cs)
		}
	}
}

// P18.2 to P18.6: long pasts by chance, in caches of every size.
func TestLongPasts(t *testing.T) {
	chance := rand.New(rand.NewSource(180))
	for sets := 0; sets <= api.MaxSets; sets++ {
		for ways := 1; ways <= api.MaxWays; ways++ {
			k, m := pair(t, sets, ways, chance.Intn(api.MaxKnob+1))
			cs := some()
			for range chance.Intn(60) {
				cs = append(cs, api.Cap{Obj: chance.Intn(4), Pass: api.Word{Hi: uint64(chance.Intn(2)), Lo: uint64(chance.Intn(9))}})
			}
			for range 900 {
				c := cs[chance.Intn(len(cs))]
				switch chance.Intn(24) {
				case 0:
					k.Turn()
					m.turn()
				case 1:
					same(t, k, m, cs)
				case 2, 3, 4:
					got, ok := k.Get(c)
					if want, wantOk := m.get(c); got != want || ok != wantOk {
						t.Fatalf("P18.2: Get(%v): %d, %v, want %d, %v", c, got, ok, want, wantOk)
					}
				default:
					rights := int(chance.Uint64()) >> chance.Intn(64)
					k.Put(c, rights)
					m.put(c, rights)
				}
			}
			same(t, k, m, cs)
		}
	}
}

// Two caches share nothing, also if they are made alike.
func TestCachesAreApart(t *testing.T) {
	k, o := made(t, 4, 2, 64), made(t, 4, 2, 64)
	for i, c := range some() {
		k.Put(c, i)
	}
	lacks(t, o, some()...)
	counts(t, k, 0, 0)
	counts(t, o, 0, len(some()))
	o.Put(word(1), 8)
	k.Put(word(1), 9)
	o.Turn()
	epoch(t, k, 0)
	epoch(t, o, 1)
	knows(t, k, word(1), 9)
	lacks(t, o, word(1))
}
