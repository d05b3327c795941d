package domain_test

import (
	"math"
	"math/rand"
	"slices"
	"testing"

	"sesame/api"
	"sesame/domain"
)

// model: what a list should hold, as P17.6 says it: all that was ever added, in that order, and which of them were removed.
type model struct {
	most  int
	added []api.Cap
	gone  []bool
}

func (m *model) all() []api.Cap {
	var out []api.Cap
	for n, c := range m.added {
		if !m.gone[n] {
			out = append(out, c)
		}
	}
	return out
}

func (m *model) add(c api.Cap) api.Errno {
	if len(m.all()) == m.most {
		return api.ErrList
	}
	m.added, m.gone = append(m.added, c), append(m.gone, false)
	return api.OK
}

func (m *model) at(i int) (api.Cap, api.Errno) {
	for place, c := range m.all() {
		if place == i {
			return c, api.OK
		}
	}
	return api.Cap{}, api.ErrIndex
}

func (m *model) remove(i int) (api.Cap, api.Errno) {
	place := 0
	for n, c := range m.added {
		if m.gone[n] {
			continue
		}
		if place == i {
			m.gone[n] = true
			return c, api.OK
		}
		place++
	}
	return api.Cap{}, api.ErrIndex
}

func (m *model) pick(places []int) ([]api.Cap, api.Errno) {
	var out []api.Cap
	for _, i := range places {
		c, code := m.at(i)
		if code != api.OK {
			return nil, code
		}
		out = append(out, c)
	}
	if len(out) > m.most {
		return nil, api.ErrList
	}
	return out, api.OK
}

func made(t *testing.T, most int, caps ...api.Cap) *domain.List {
	t.Helper()
	l, code := domain.New(most)
	if l == nil || code != api.OK {
		t.Fatalf("P17.1: New(%d): %v, %d", most, l, code)
	}
	for _, c := range caps {
		answer(t, "P17.2: Add", l.Add(c), api.OK)
	}
	return l
}

func answer(t *testing.T, what string, got, want api.Errno) {
	t.Helper()
	if got != want {
		t.Errorf("%s: %d, want %d", what, got, want)
	}
}

func holds(t *testing.T, l *domain.List, want ...api.Cap) {
	t.Helper()
	if !slices.Equal(l.All(), want) || l.Len() != len(want) {
		t.Errorf("P17.4: %v, %d in all, want %v", l.All(), l.Len(), want)
	}
}

func removes(t *testing.T, l *domain.List, i int, want api.Cap, code api.Errno) {
	t.Helper()
	if c, got := l.Remove(i); c != want || got != code {
		t.Errorf("P17.3: Remove(%d): %v, %d, want %v, %d", i, c, got, want, code)
	}
}

func tells(t *testing.T, l *domain.List, i int, want api.Cap, code api.Errno) {
	t.Helper()
	if c, got := l.At(i); c != want || got != code {
		t.Errorf("P17.3: At(%d): %v, %d, want %v, %d", i, c, got, want, code)
	}
}

func picks(t *testing.T, l *domain.List, places []int, want []api.Cap, code api.Errno) {
	t.Helper()
	if p, got := l.Pick(places); !slices.Equal(p, want) || got != code {
		t.Errorf("P17.5: Pick(%v): %v, %d, want %v, %d", places, p, got, want, code)
	}
}

// odd: places that no list has.
func odd() []int {
	return []int{math.MinInt, math.MinInt + 1, -1 << 32, -33, -32, -2, -1, 32, 33, 64, 255, 256, 1 << 32, math.MaxInt - 1, math.MaxInt}
}

// some: capabilities of every kind: none is looked up.
func some() []api.Cap {
	top := ^uint64(0)
	return []api.Cap{
		{}, {Obj: 1}, {Obj: 1, Pass: api.Word{Lo: 5}}, {Obj: 1, Pass: api.Word{Hi: 5}}, {Obj: 2, Pass: api.Word{Lo: 5}},
		{Pass: api.Word{Hi: top, Lo: top}}, {Obj: -1, Pass: api.Word{Hi: top}}, {Obj: math.MinInt}, {Obj: math.MaxInt, Pass: api.Word{Lo: top}}, {Obj: api.MaxId + 1},
	}
}

// rising: as many unlike ones, by their place.
func rising(n int) []api.Cap {
	out := make([]api.Cap, n)
	for i := range out {
		out[i] = api.Cap{Obj: 100 + i, Pass: api.Word{Hi: uint64(i), Lo: 7}}
	}
	return out
}

func firsts(n int) []int {
	out := make([]int, n)
	for i := range out {
		out[i] = i
	}
	return out
}

// same: whether a list tells what the model holds.
func same(t *testing.T, what string, l *domain.List, m *model) {
	t.Helper()
	want := m.all()
	if got := l.All(); !slices.Equal(got, want) {
		t.Fatalf("P17.4: %s: All: %v, want %v", what, got, want)
	}
	if l.Len() != len(want) {
		t.Fatalf("P17.4: %s: Len: %d, want %d", what, l.Len(), len(want))
	}
	for _, i := range append(odd(), firsts(len(want)+1)...) {
		c, code := l.At(i)
		if wantCap, wantCode := m.at(i); c != wantCap || code != wantCode {
			t.Fatalf("P17.3: %s: At(%d): %v, %d, want %v, %d", what, i, c, code, wantCap, wantCode)
		}
	}
	if p, code := l.Pick(firsts(len(want))); !slices.Equal(p, want) || code != api.OK {
		t.Fatalf("P17.6: %s: Pick of all: %v, %d, want %v", what, p, code, want)
	}
	if !slices.Equal(l.All(), want) || l.Len() != len(want) {
		t.Fatalf("P17.4: %s: asking has changed it", what)
	}
}

// step: one call on both: an Add, if it has a capability, else a Remove.
type step struct {
	add bool
	c   api.Cap
	i   int
}

func (s step) do(t *testing.T, l *domain.List, m *model) {
	t.Helper()
	if s.add {
		if got, want := l.Add(s.c), m.add(s.c); got != want {
			t.Fatalf("P17.2: Add(%v): %d, want %d", s.c, got, want)
		}
		return
	}
	c, code := l.Remove(s.i)
	if want, wantCode := m.remove(s.i); c != want || code != wantCode {
		t.Fatalf("P17.3: Remove(%d): %v, %d, want %v, %d", s.i, c, code, want, wantCode)
	}
}

// P17.1
func TestNewBounds(t *testing.T) {
	for most := 1; most <= api.MaxList; most++ {
		l, m := made(t, most), &model{most: most}
		same(t, "a new one", l, m)
		for n := range most {
			step{add: true, c: api.Cap{Obj: n}}.do(t, l, m)
		}
		same(t, "a full one", l, m)
		answer(t, "P17.2: Add to a full one", l.Add(api.Cap{}), api.ErrList)
		same(t, "a refusal", l, m)
	}
	for _, most := range []int{math.MinInt, -32, -1, 0, 33, 34, 64, 256, 257, 1<<32 + 1, math.MaxInt} {
		if l, code := domain.New(most); l != nil || code != api.ErrConfig {
			t.Errorf("P17.1: New(%d): %v, %d", most, l, code)
		}
	}
}

// P17.1 to P17.5: the chapter's examples.
func TestExamples(t *testing.T) {
	a, b := api.Cap{Obj: 1, Pass: api.Word{Lo: 5}}, api.Cap{Obj: 2, Pass: api.Word{Hi: 1}}
	for _, most := range []int{0, 33} {
		if l, code := domain.New(most); l != nil || code != api.ErrConfig {
			t.Errorf("P17.1: New(%d): %v, %d", most, l, code)
		}
	}
	l := made(t, 2)
	answer(t, "P17.2: Add(a)", l.Add(a), api.OK)
	answer(t, "P17.2: Add(a) again", l.Add(a), api.OK)
	answer(t, "P17.2: Add(b)", l.Add(b), api.ErrList)
	holds(t, l, a, a)
	removes(t, l, 0, a, api.OK)
	removes(t, l, 1, api.Cap{}, api.ErrIndex)
	tells(t, l, 0, a, api.OK)
	tells(t, l, -1, api.Cap{}, api.ErrIndex)
	answer(t, "P17.2: Add(b)", l.Add(b), api.OK)
	picks(t, l, []int{1, 0}, []api.Cap{b, a}, api.OK)
	picks(t, l, []int{1, 1}, []api.Cap{b, b}, api.OK)
	picks(t, l, []int{0, 2}, nil, api.ErrIndex)
	picks(t, l, []int{0, 0, 0}, nil, api.ErrList)
	picks(t, l, []int{0, 0, 5}, nil, api.ErrIndex)
	picks(t, l, nil, nil, api.OK)
	picks(t, l, []int{}, nil, api.OK)
	holds(t, l, a, b)
}

// rows does something with all rows of that length of numbers from 0 to below n.
func rows(length, n int, do func(row []int)) {
	row := make([]int, length)
	for {
		do(row)
		at := 0
		for at < length && row[at] == n-1 {
			row[at] = 0
			at++
		}
		if at == length {
			return
		}
		row[at]++
	}
}

// P17.2 to P17.4, P17.6: every short past, at small bounds.
func TestEveryShortPast(t *testing.T) {
	a, b := some()[2], some()[3]
	steps := []step{{add: true, c: a}, {add: true, c: b}, {i: -1}, {i: 0}, {i: 1}, {i: 2}}
	for length := range 7 {
		for most := 1; most <= 3; most++ {
			rows(length, len(steps), func(row []int) {
				l, m := made(t, most), &model{most: most}
				for _, at := range row {
					steps[at].do(t, l, m)
				}
				same(t, "a small past", l, m)
			})
		}
	}
}

// P17.5: every short row of places, of every small list.
func TestEveryPick(t *testing.T) {
	for most := 1; most <= 3; most++ {
		for n := range most + 1 {
			caps := rising(n)
			l, m := made(t, most, caps...), &model{most: most}
			for _, c := range caps {
				m.add(c)
			}
			for length := range most + 3 {
				rows(length, n+3, func(row []int) {
					places := make([]int, length)
					for k := range row {
						places[k] = row[k] - 1
					}
					want, code := m.pick(places)
					picks(t, l, places, want, code)
				})
			}
			same(t, "many picks", l, m)
		}
	}
}

// P17.5: as many as the list may hold are picked, also where fewer are there; one more is too many; a wrong place, wherever it stands, counts ahead of that.
func TestPickEdges(t *testing.T) {
	for most := 1; most <= api.MaxList; most++ {
		caps := rising(1 + most/2)
		l := made(t, most, caps...)
		for _, n := range []int{0, 1, most - 1, most, most + 1, most + 2, 2 * most, 1000} {
			places, want := make([]int, n), make([]api.Cap, n)
			for k := range places {
				places[k] = (k * 3) % len(caps)
				want[k] = caps[places[k]]
			}
			if n > most {
				picks(t, l, places, nil, api.ErrList)
			} else {
				picks(t, l, places, want, api.OK)
			}
			for k := range places {
				was := places[k]
				for _, wrong := range []int{-1, len(caps), math.MinInt, math.MaxInt} {
					places[k] = wrong
					picks(t, l, places, nil, api.ErrIndex)
				}
				places[k] = was
			}
		}
		holds(t, l, caps...)
	}
	l := made(t, 1)
	picks(t, l, []int{0}, nil, api.ErrIndex)
	picks(t, l, []int{0, 0}, nil, api.ErrIndex)
	picks(t, l, nil, nil, api.OK)
}

// P17.5: a very long row of places.
func TestPickOfVeryMany(t *testing.T) {
	l := made(t, api.MaxList, rising(2)...)
	places := make([]int, 1<<20)
	picks(t, l, places, nil, api.ErrList)
	places[len(places)-1] = 2
	picks(t, l, places, nil, api.ErrIndex)
	holds(t, l, rising(2)...)
}

// P17.3: places that are none: nothing is told, nothing has changed.
func TestNoSuchPlace(t *testing.T) {
	for n := range api.MaxList + 1 {
		caps := rising(n)
		l := made(t, api.MaxList, caps...)
		for _, i := range append(odd(), n, n+1) {
			tells(t, l, i, api.Cap{}, api.ErrIndex)
			removes(t, l, i, api.Cap{}, api.ErrIndex)
			picks(t, l, []int{i}, nil, api.ErrIndex)
			holds(t, l, caps...)
		}
	}
}

// P17.3: each place of each full list: those ahead stay, those behind move up, and there is room for one more.
func TestRemoveEach(t *testing.T) {
	more := api.Cap{Obj: 9, Pass: api.Word{Hi: 9}}
	for most := 1; most <= api.MaxList; most++ {
		for i := range most {
			caps := rising(most)
			l := made(t, most, caps...)
			removes(t, l, i, caps[i], api.OK)
			want := slices.Concat(caps[:i], caps[i+1:])
			holds(t, l, want...)
			removes(t, l, most-1, api.Cap{}, api.ErrIndex)
			tells(t, l, most-1, api.Cap{}, api.ErrIndex)
			answer(t, "P17.2: Add", l.Add(more), api.OK)
			holds(t, l, append(want, more)...)
			answer(t, "P17.2: Add to a full one", l.Add(more), api.ErrList)
			tells(t, l, most-1, more, api.OK)
		}
	}
}

// P17.2: any capability is taken as it is, also one that is there.
func TestAnyCap(t *testing.T) {
	for _, c := range some() {
		l := made(t, 3, c, c)
		holds(t, l, c, c)
		answer(t, "P17.2: Add", l.Add(some()[2]), api.OK)
		removes(t, l, 0, c, api.OK)
		holds(t, l, c, some()[2])
		tells(t, l, 0, c, api.OK)
		picks(t, l, []int{1, 0, 0}, []api.Cap{some()[2], c, c}, api.OK)
	}
	holds(t, made(t, len(some()), some()...), some()...)
}

// P17.6: what was added last, and removed, leaves no trace.
func TestRemoveOfLast(t *testing.T) {
	for n := range api.MaxList {
		caps := rising(n)
		l := made(t, n+1, caps...)
		for _, c := range some() {
			answer(t, "P17.2: Add", l.Add(c), api.OK)
			removes(t, l, n, c, api.OK)
			holds(t, l, caps...)
			tells(t, l, n, api.Cap{}, api.ErrIndex)
			picks(t, l, []int{n}, nil, api.ErrIndex)
			picks(t, l, firsts(n), caps, api.OK)
		}
	}
}

// anyStep: one by chance: some add, some remove at a place that is there, some at one that is none.
func anyStep(chance *rand.Rand, m *model) step {
	n := len(m.all())
	switch kind := chance.Intn(20); {
	case kind < 9:
		return step{add: true, c: api.Cap{Obj: chance.Intn(5), Pass: api.Word{Hi: chance.Uint64(), Lo: chance.Uint64()}}}
	case kind < 11:
		return step{add: true, c: some()[chance.Intn(len(some()))]}
	case kind < 18:
		return step{i: chance.Intn(n + 1)}
	case kind < 19:
		return step{i: n}
	}
	return step{i: odd()[chance.Intn(len(odd()))]}
}

// anyPlaces: places by chance, mostly such as are there.
func anyPlaces(chance *rand.Rand, m *model) []int {
	n := len(m.all())
	places := make([]int, chance.Intn(m.most+3))
	for k := range places {
		places[k] = chance.Intn(n + 1)
		if n > 0 && chance.Intn(30) > 0 {
			places[k] = chance.Intn(n)
		}
	}
	return places
}

// P17.2 to P17.6: long pasts by chance, at every bound.
func TestLongPasts(t *testing.T) {
	chance := rand.New(rand.NewSource(17))
	for most := 1; most <= api.MaxList; most++ {
		l, m := made(t, most), &model{most: most}
		for range 300 {
			anyStep(chance, m).do(t, l, m)
			places := anyPlaces(chance, m)
			want, code := m.pick(places)
			picks(t, l, places, want, code)
			same(t, "a long past", l, m)
		}
	}
}

// spoil writes over a list of capabilities, its spare room too.
func spoil(caps []api.Cap) {
	caps = caps[:cap(caps)]
	for i := range caps {
		caps[i] = api.Cap{Obj: 77, Pass: api.Word{Lo: 77}}
	}
}

// P17.7: what is told is new memory, its spare room too.
func TestAnswersAreNew(t *testing.T) {
	for n := range 9 {
		l, m := made(t, 10), &model{most: 10}
		for _, c := range rising(n) {
			step{add: true, c: c}.do(t, l, m)
		}
		ask := []func() []api.Cap{
			l.All,
			func() []api.Cap { p, _ := l.Pick(firsts(n)); return p },
		}
		for _, first := range ask {
			for _, second := range ask {
				one, two := first(), second()
				spoil(one)
				if !slices.Equal(two, rising(n)) {
					t.Errorf("P17.7: two answers share memory: %v", two)
				}
				same(t, "an answer was written over", l, m)
				_ = append(two, api.Cap{Obj: 78}, api.Cap{Obj: 79})
				same(t, "an answer was added to", l, m)
			}
		}
		all, picked := l.All(), ask[1]()
		for _, s := range []step{{add: true, c: some()[3]}, {i: 0}, {add: true}, {i: n / 2}, {add: true, c: some()[5]}} {
			s.do(t, l, m)
			same(t, "and went on", l, m)
		}
		if !slices.Equal(all, rising(n)) || !slices.Equal(picked, rising(n)) {
			t.Errorf("P17.7: old answers have changed: %v, %v", all, picked)
		}
	}
}

// P17.7: the places that are handed in stay as they are, with their spare room, and are not kept.
func TestPlacesAreLeft(t *testing.T) {
	l, m := made(t, 4), &model{most: 4}
	for _, c := range rising(3) {
		step{add: true, c: c}.do(t, l, m)
	}
	for _, row := range [][]int{{2, 0, 0, 1, 5, 6}, {2, 2, 2, 2, 5, 6}, {0, 3, 0, 1, 5, 6}, {2, 0, 1, 0, 0, 0}} {
		for n := range len(row) + 1 {
			given := slices.Clone(row)
			p, _ := l.Pick(given[:n])
			if !slices.Equal(given, row) {
				t.Fatalf("P17.7: Pick(%v) has changed its places: %v", row[:n], given)
			}
			want := slices.Clone(p)
			for k := range given {
				given[k] = 1
			}
			if !slices.Equal(p, want) {
				t.Fatalf("P17.7: an answer has changed with the places: %v, want %v", p, want)
			}
			same(t, "places written over", l, m)
		}
	}
}

// P17.7: two have nothing in common.
func TestTwo(t *testing.T) {
	a, b := made(t, 5), made(t, 3)
	ma, mb := &model{most: 5}, &model{most: 3}
	chance := rand.New(rand.NewSource(2))
	for range 500 {
		if chance.Intn(2) == 0 {
			anyStep(chance, ma).do(t, a, ma)
		} else {
			anyStep(chance, mb).do(t, b, mb)
		}
		same(t, "one of two", a, ma)
		same(t, "the other", b, mb)
	}
}
