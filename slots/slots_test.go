package slots_test

import (
	"math"
	"math/big"
	"math/rand"
	"slices"
	"testing"

	"sesame/api"
	"sesame/slots"
)

// pair: a capability and its value, as the model has them.
type pair struct {
	c api.Cap
	v int
}

// model: what a table should hold, a plain list of pairs.
type model struct {
	most int
	held []pair
}

func (m *model) find(c api.Cap) int {
	return slices.IndexFunc(m.held, func(p pair) bool { return p.c == c })
}

func (m *model) put(c api.Cap, v int) api.Errno {
	switch {
	case m.find(c) >= 0:
		return api.ErrThere
	case len(m.held) == m.most:
		return api.ErrEntry
	}
	m.held = append(m.held, pair{c, v})
	return api.OK
}

func (m *model) get(c api.Cap) (int, bool) {
	at := m.find(c)
	if at < 0 {
		return 0, false
	}
	return m.held[at].v, true
}

func (m *model) drop(c api.Cap) bool {
	at := m.find(c)
	if at >= 0 {
		m.held = slices.Delete(m.held, at, at+1)
	}
	return at >= 0
}

// numberOf tells a capability as one number, by which all of them are in their order.
func numberOf(c api.Cap) *big.Int {
	n := big.NewInt(int64(c.Obj))
	for _, half := range []uint64{c.Pass.Hi, c.Pass.Lo} {
		n.Lsh(n, 64).Add(n, new(big.Int).SetUint64(half))
	}
	return n
}

func sorted(l []api.Cap) []api.Cap {
	l = slices.Clone(l)
	slices.SortFunc(l, func(a, b api.Cap) int { return numberOf(a).Cmp(numberOf(b)) })
	return l
}

func (m *model) caps() []api.Cap {
	var l []api.Cap
	for _, p := range m.held {
		l = append(l, p.c)
	}
	return sorted(l)
}

func of(obj int, hi, lo uint64) api.Cap { return api.Cap{Obj: obj, Pass: api.Word{Hi: hi, Lo: lo}} }

func mustNew[V any](t *testing.T, most, knob int) *slots.Table[V] {
	t.Helper()
	l, code := slots.New[V](most, knob)
	if l == nil || code != api.OK {
		t.Fatalf("P8.1: New(%d, %d): %v, %d", most, knob, l, code)
	}
	return l
}

func wantPut[V any](t *testing.T, l *slots.Table[V], c api.Cap, v V, want api.Errno) {
	t.Helper()
	if code := l.Put(c, v); code != want {
		t.Fatalf("P8.2: Put(%v): %d, not %d", c, code, want)
	}
}

func wantGet[V comparable](t *testing.T, l *slots.Table[V], c api.Cap, want V, there bool) {
	t.Helper()
	if v, ok := l.Get(c); v != want || ok != there {
		t.Fatalf("P8.3: Get(%v): %v, %v; want %v, %v", c, v, ok, want, there)
	}
}

func wantDrop[V any](t *testing.T, l *slots.Table[V], c api.Cap, want bool) {
	t.Helper()
	if ok := l.Drop(c); ok != want {
		t.Fatalf("P8.4: Drop(%v): %v, not %v", c, ok, want)
	}
}

func wantCaps[V any](t *testing.T, l *slots.Table[V], want ...api.Cap) {
	t.Helper()
	if caps := l.Caps(); !slices.Equal(caps, want) || l.Len() != len(want) {
		t.Fatalf("P8.5: %v, Len %d; want %v", caps, l.Len(), want)
	}
}

// wantHeld holds all that a table tells against the model; asked: which are asked for, there or not.
func wantHeld(t *testing.T, l *slots.Table[int], m *model, asked []api.Cap) {
	t.Helper()
	wantCaps(t, l, m.caps()...)
	for _, p := range m.held {
		wantGet(t, l, p.c, p.v, true)
	}
	for _, c := range asked {
		v, there := m.get(c)
		wantGet(t, l, c, v, there)
	}
}

// edges: capabilities at the bounds of numbers and halves; many part in one place only.
func edges() []api.Cap {
	halves := []uint64{0, 1, 1<<63 - 1, 1 << 63, math.MaxUint64}
	var l []api.Cap
	for _, obj := range []int{math.MinInt, math.MinInt + 1, -2, -1, 0, 1, 2, api.MaxId, math.MaxInt} {
		for _, hi := range halves {
			for _, lo := range halves {
				l = append(l, of(obj, hi, lo))
			}
		}
	}
	return l
}

// someCaps gives n capabilities, no two alike, by few objects and mostly short words.
func someCaps(r *rand.Rand, n int) []api.Cap {
	seen := map[api.Cap]int{}
	var l []api.Cap
	for len(l) < n {
		c := of(r.Intn(5)-2, 0, uint64(r.Intn(4*n)))
		switch r.Intn(4) {
		case 0:
			c.Pass.Hi = uint64(r.Intn(3))
		case 1:
			c = of(int(r.Uint64()), r.Uint64(), r.Uint64())
		}
		if seen[c] == 0 {
			l = append(l, c)
		}
		seen[c]++
	}
	return l
}

var knobs = []int{0, 1, 2, 3, 8, 31, 32, 33, 63, 64}

func TestNewRefuses(t *testing.T) { // P8.1
	far := []int{math.MinInt, math.MinInt32, -257, -256, -65, -64, -2, -1, 257, 258, 512, 65536, math.MaxInt32, 1 << 32, 1<<32 + 1, 1 << 62, 1<<62 + 1, math.MaxInt - 1, math.MaxInt}
	wrongMost := append([]int{0}, far...)
	wrongKnob := append([]int{65, 66, 128, 256}, far...)
	refused := func(most, knob int) {
		t.Helper()
		if l, code := slots.New[int](most, knob); l != nil || code != api.ErrConfig {
			t.Fatalf("P8.1: New(%d, %d): %v, %d", most, knob, l, code)
		}
	}
	for _, most := range wrongMost {
		for _, knob := range append([]int{0, 1, 63, 64}, wrongKnob...) {
			refused(most, knob)
		}
	}
	for _, knob := range wrongKnob {
		for _, most := range []int{1, 2, 255, 256} {
			refused(most, knob)
		}
	}
}

// TestNewOfEachSize fills each table up, and empties it, with all knobs in turn.
func TestNewOfEachSize(t *testing.T) { // P8.1, P8.2, P8.4
	r := rand.New(rand.NewSource(81))
	for most := 1; most <= api.MaxEntries; most++ {
		for _, knob := range []int{0, 64, most % 65} {
			l := mustNew[int](t, most, knob)
			wantCaps(t, l)
			all := someCaps(r, most+2)
			in, out := all[:most], all[most:]
			for n, c := range in {
				wantGet(t, l, c, 0, false)
				wantDrop(t, l, c, false)
				wantPut(t, l, c, n+1, api.OK)
			}
			for n, c := range in {
				wantPut(t, l, c, -1, api.ErrThere)
				wantGet(t, l, c, n+1, true)
			}
			for _, c := range out {
				wantPut(t, l, c, -1, api.ErrEntry)
				wantGet(t, l, c, 0, false)
				wantDrop(t, l, c, false)
			}
			wantCaps(t, l, sorted(in)...)
			for n, c := range in {
				wantGet(t, l, c, n+1, true)
				wantDrop(t, l, c, true)
				wantDrop(t, l, c, false)
				wantGet(t, l, c, 0, false)
			}
			wantCaps(t, l)
		}
	}
}

func TestEachKnob(t *testing.T) { // P8.1, P8.6
	r := rand.New(rand.NewSource(82))
	for knob := 0; knob <= api.MaxKnob; knob++ {
		l, m := mustNew[int](t, 12, knob), &model{most: 12}
		steps(t, r, []*slots.Table[int]{l}, m, 200, someCaps(r, 20))
	}
}

func TestExamples(t *testing.T) { // P8.2 to P8.5
	l := mustNew[int](t, 2, 0)
	one, minus, two := of(1, 0, 5), of(-1, 9, 0), of(2, 0, 0)
	wantPut(t, l, one, 7, api.OK)
	wantPut(t, l, one, 8, api.ErrThere)
	wantPut(t, l, minus, 8, api.OK)
	wantPut(t, l, two, 9, api.ErrEntry)
	wantPut(t, l, one, 9, api.ErrThere)
	wantGet(t, l, one, 7, true)
	wantGet(t, l, of(1, 0, 6), 0, false)
	wantCaps(t, l, minus, one)
	wantDrop(t, l, one, true)
	wantDrop(t, l, one, false)
	wantCaps(t, l, minus)
	wantPut(t, l, two, 9, api.OK)
	wantCaps(t, l, minus, two)
	words := mustNew[int](t, 3, 64)
	for _, c := range []api.Cap{of(4, 0, 9), of(4, 1, 0), of(4, 0, 10)} {
		wantPut(t, words, c, 0, api.OK)
	}
	wantCaps(t, words, of(4, 0, 9), of(4, 0, 10), of(4, 1, 0))
}

// TestAnyCapability: numbers and words at their bounds are told from each other, and told in their order.
func TestAnyCapability(t *testing.T) { // P8.2, P8.3, P8.5
	r := rand.New(rand.NewSource(83))
	all := edges()
	for _, knob := range knobs {
		l, m := mustNew[int](t, api.MaxEntries, knob), &model{most: api.MaxEntries}
		r.Shuffle(len(all), func(i, j int) { all[i], all[j] = all[j], all[i] })
		for n, c := range all[:200] {
			wantPut(t, l, c, n+1, m.put(c, n+1))
		}
		wantHeld(t, l, m, all)
		for _, c := range all[:100] {
			wantDrop(t, l, c, m.drop(c))
		}
		wantHeld(t, l, m, all)
	}
}

// TestRefusalsChangeNothing: a full table, and one that isn't, refuse and are as they were.
func TestRefusalsChangeNothing(t *testing.T) { // P8.2 to P8.4
	r := rand.New(rand.NewSource(84))
	for _, knob := range knobs {
		for _, n := range []int{5, 8} {
			l, m := mustNew[int](t, 8, knob), &model{most: 8}
			all := someCaps(r, 12)
			for i, c := range all[:n] {
				wantPut(t, l, c, i+1, m.put(c, i+1))
			}
			for range 100 { // often enough that traces of refusals would add up
				for _, c := range all[:n] {
					wantPut(t, l, c, 99, api.ErrThere)
				}
				for _, c := range all[8:] {
					wantDrop(t, l, c, false)
					wantGet(t, l, c, 0, false)
					if n == 8 {
						wantPut(t, l, c, 99, api.ErrEntry)
					}
				}
			}
			wantHeld(t, l, m, all)
		}
	}
}

// TestPutAgain: what was dropped has its new value when it is put again, also where the zero value is put.
func TestPutAgain(t *testing.T) { // P8.3, P8.4
	for _, knob := range knobs {
		l, c, other := mustNew[int](t, 3, knob), of(6, 7, 8), of(6, 7, 9)
		wantPut(t, l, other, 5, api.OK)
		for n := range 100 {
			wantPut(t, l, c, n, api.OK)
			wantPut(t, l, c, -n, api.ErrThere)
			wantGet(t, l, c, n, true)
			wantCaps(t, l, c, other)
			wantDrop(t, l, c, true)
			wantGet(t, l, c, 0, false)
			wantDrop(t, l, c, false)
			wantCaps(t, l, other)
		}
		wantGet(t, l, other, 5, true)
	}
}

// TestOrder: all orders in which a few may be put end in one order.
func TestOrder(t *testing.T) { // P8.5
	few := []api.Cap{of(math.MinInt, 9, 9), of(-1, 0, 0), of(3, 0, 7), of(3, 0, math.MaxUint64), of(3, 1, 0), of(math.MaxInt, 0, 0)}
	var all func(done, left []api.Cap)
	all = func(done, left []api.Cap) {
		if len(left) == 0 {
			l := mustNew[int](t, len(few), 64)
			for n, c := range done {
				wantPut(t, l, c, n, api.OK)
			}
			wantCaps(t, l, few...)
		}
		for i, c := range left {
			all(append(slices.Clone(done), c), slices.Concat(left[:i], left[i+1:]))
		}
	}
	all(nil, few)
}

// steps does calls in any order to the tables and to the model; their answers are alike.
func steps(t *testing.T, r *rand.Rand, tables []*slots.Table[int], m *model, n int, from []api.Cap) {
	t.Helper()
	for step := range n {
		c := from[r.Intn(len(from))]
		drops := r.Intn(2) == 0
		var code api.Errno
		var there bool
		if drops {
			there = m.drop(c)
		} else {
			code = m.put(c, step+1)
		}
		for _, l := range tables {
			if drops {
				wantDrop(t, l, c, there)
			} else {
				wantPut(t, l, c, step+1, code)
			}
			wantHeld(t, l, m, from[:min(len(from), 6)])
		}
	}
}

// TestKnobsShowNowhere: tables with unlike knobs answer alike, call by call.
func TestKnobsShowNowhere(t *testing.T) { // P8.6
	r := rand.New(rand.NewSource(86))
	for _, most := range []int{1, 2, 3, 4, 5, 7, 8, 9, 15, 16, 17, 33} {
		var tables []*slots.Table[int]
		for _, knob := range knobs {
			tables = append(tables, mustNew[int](t, most, knob))
		}
		for _, other := range []int{1, 2, most + 3} { // few that come and go often, or as many as fill a table
			from := someCaps(r, most+other)
			m := &model{most: most}
			steps(t, r, tables, m, 150, from)
			for _, c := range m.caps() {
				for _, l := range tables {
					wantDrop(t, l, c, true)
				}
			}
		}
	}
}

// TestEveryShortPast goes through all lists of six puts and drops of three capabilities, in tables of each size and knob here.
func TestEveryShortPast(t *testing.T) { // P8.6
	for _, most := range []int{1, 2, 3} {
		for _, knob := range []int{0, 1, 64} {
			everyPast(t, most, knob, 6)
		}
	}
}

// everyPast reads each number as a list of steps, a digit a step.
func everyPast(t *testing.T, most, knob, length int) {
	t.Helper()
	from := []api.Cap{of(1, 0, 1), of(1, 0, 2), of(2, 0, 1)}
	kinds, all := 2*len(from), 1
	for range length {
		all *= kinds
	}
	for past := range all {
		l, m := mustNew[int](t, most, knob), &model{most: most}
		for step, rest := 0, past; step < length; step, rest = step+1, rest/kinds {
			c := from[rest%kinds/2]
			if rest%2 == 0 {
				wantPut(t, l, c, step+1, m.put(c, step+1))
			} else {
				wantDrop(t, l, c, m.drop(c))
			}
		}
		wantHeld(t, l, m, from)
	}
}

// TestDroppedOften: one comes and one goes, thousands of times; a table that isn't full takes more, and what isn't there is looked for in vain, and ends.
func TestDroppedOften(t *testing.T) { // P8.6
	for _, most := range []int{1, 2, 3, 4, 8, 31, 32, 256} {
		for _, knob := range []int{0, 1, 5, 64} {
			for _, stay := range []int{0, most / 2, most - 1} {
				l := mustNew[int](t, most, knob)
				for n := range stay {
					wantPut(t, l, of(-7, 1, uint64(n)), n, api.OK)
				}
				for n := range 2000 {
					c := of(n%3, 0, uint64(n))
					wantPut(t, l, c, n, api.OK)
					wantGet(t, l, of(3, 0, uint64(n)), 0, false)
					wantGet(t, l, c, n, true)
					wantDrop(t, l, c, true)
					wantGet(t, l, c, 0, false)
				}
				for n := range stay {
					wantGet(t, l, of(-7, 1, uint64(n)), n, true)
				}
				if l.Len() != stay {
					t.Fatalf("P8.6: %d are there, not %d", l.Len(), stay)
				}
			}
		}
	}
}

// TestFilledAndEmptied: a table takes as many as it may each time, whatever was there.
func TestFilledAndEmptied(t *testing.T) { // P8.6
	r := rand.New(rand.NewSource(87))
	for _, most := range []int{1, 2, 3, 5, 64, 256} {
		for _, knob := range []int{0, 3, 64} {
			l := mustNew[int](t, most, knob)
			for range 12 {
				all := someCaps(r, most+1)
				for n, c := range all[:most] {
					wantPut(t, l, c, n, api.OK)
				}
				wantPut(t, l, all[most], 0, api.ErrEntry)
				wantCaps(t, l, sorted(all[:most])...)
				wantDrop(t, l, all[0], true)
				wantPut(t, l, all[most], 0, api.OK)
				wantPut(t, l, all[0], 0, api.ErrEntry)
				for _, c := range all[1:] {
					wantDrop(t, l, c, true)
				}
				wantCaps(t, l)
			}
		}
	}
}

// TestCapsIsNew: what is done to a list that was answered, its spare room too, shows nowhere, and what is done to the table not in the list.
func TestCapsIsNew(t *testing.T) { // P8.7
	for _, n := range []int{0, 1, 4} {
		l, m := mustNew[int](t, 5, 64), &model{most: 5}
		for i := range n {
			wantPut(t, l, of(i, 1, 2), i, m.put(of(i, 1, 2), i))
		}
		one, other := l.Caps(), l.Caps()
		for i := range one[:cap(one)] {
			one[:cap(one)][i] = of(99, 9, 9)
		}
		if !slices.Equal(other, m.caps()) {
			t.Fatalf("P8.7: two lists share memory: %v", other)
		}
		wantHeld(t, l, m, []api.Cap{of(99, 9, 9)})
		wantPut(t, l, of(-5, 0, 0), 3, api.OK)
		wantDrop(t, l, of(0, 1, 2), n > 0)
		if !slices.Equal(other, m.caps()) {
			t.Fatalf("P8.7: a put and a drop show in a list that was answered: %v", other)
		}
	}
}

// TestTwoTables: what is done to one shows in no other, be its size and knob the same.
func TestTwoTables(t *testing.T) { // P8.7
	r := rand.New(rand.NewSource(88))
	one, other := mustNew[int](t, 9, 64), mustNew[int](t, 9, 64)
	m, n := &model{most: 9}, &model{most: 9}
	from := someCaps(r, 14)
	for range 30 {
		steps(t, r, []*slots.Table[int]{one}, m, 10, from)
		wantHeld(t, other, n, from)
		steps(t, r, []*slots.Table[int]{other}, n, 10, from)
		wantHeld(t, one, m, from)
	}
}

// TestValues: values of all kinds are handed back as they were put, whatever came and went around them.
func TestValues(t *testing.T) { // P8.3, P8.7
	kept(t, "", "a text", "\x00\xff")
	kept(t, false, true)
	kept(t, struct{}{})
	kept(t, [3]int{}, [3]int{1, 2, 3})
	kept(t, api.Token{}, api.Token{Cap: of(1, 2, 3), Rights: 4, Parent: -1})
	kept(t, nil, new(int), new(int))
	kept[any](t, nil, 5, "x", error(nil), api.ErrCap)
	kept(t, math.Inf(1), -1.5, math.Copysign(0, -1))
	kept(t, nil, make(chan int))
}

func kept[V comparable](t *testing.T, values ...V) {
	t.Helper()
	var zero V
	for _, knob := range []int{0, 64} {
		l := mustNew[V](t, len(values)+1, knob)
		for n, v := range values {
			wantPut(t, l, of(n, 0, 0), v, api.OK)
		}
		for n := range 40 {
			c := of(-1, 0, uint64(n))
			wantGet(t, l, c, zero, false)
			wantPut(t, l, c, values[n%len(values)], api.OK)
			wantGet(t, l, c, values[n%len(values)], true)
			wantDrop(t, l, c, true)
			wantGet(t, l, c, zero, false)
		}
		for n, v := range values {
			wantGet(t, l, of(n, 0, 0), v, true)
		}
	}
}

// TestValuesAreCopied: an array is copied, a slice, a map and a function are shared, as the language has it.
func TestValuesAreCopied(t *testing.T) { // P8.7
	type row struct {
		array [2]int
		slice []int
		names map[int]int
		count func() int
	}
	count := 0
	v := row{[2]int{1, 2}, []int{3, 4, 5}[:2], map[int]int{6: 7}, func() int { count++; return count }}
	l, c := mustNew[row](t, 1, 0), of(1, 1, 1)
	wantPut(t, l, c, v, api.OK)
	v.array[0], v.slice[0], v.names[6] = 10, 30, 70
	got, there := l.Get(c)
	if !there || got.array != [2]int{1, 2} || !slices.Equal(got.slice, []int{30, 4}) || cap(got.slice) != 3 || got.names[6] != 70 || got.count() != 1 {
		t.Fatalf("P8.7: %v, %v", got, there)
	}
	got.array[1], got.slice[1] = 20, 40
	again, _ := l.Get(c)
	if again.array != [2]int{1, 2} || !slices.Equal(again.slice, []int{30, 40}) || again.count() != 2 {
		t.Fatalf("P8.7: %v", again)
	}
	wantDrop(t, l, c, true)
	if none, there := l.Get(c); there || none.slice != nil || none.names != nil || none.count != nil || none.array != [2]int{} {
		t.Fatalf("P8.3: %v, %v", none, there)
	}
}
