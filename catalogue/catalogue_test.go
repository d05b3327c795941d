package catalogue_test

import (
	"math"
	"math/rand"
	"slices"
	"testing"

	"sesame/api"
	"sesame/catalogue"
)

// atRoot stands for a parent where a root is put in: no token's number, nor one that a test asks for.
const atRoot = -1000

// held: a token as the model has it, with its number.
type held struct {
	n     int
	token api.Token
}

// model: what a catalogue should hold, a plain list in the order in which the tokens were put in.
type model struct {
	most int
	list []held
}

func (m *model) place(n int) int {
	return slices.IndexFunc(m.list, func(h held) bool { return h.n == n })
}

func (m *model) find(x api.Cap) (int, bool) {
	for _, h := range m.list {
		if h.token.Cap == x {
			return h.n, true
		}
	}
	return 0, false
}

func (m *model) at(n int) (api.Token, bool) {
	if p := m.place(n); p >= 0 {
		return m.list[p].token, true
	}
	return api.Token{}, false
}

func (m *model) in(obj int) int {
	many := 0
	for _, h := range m.list {
		if h.token.Cap.Obj == obj {
			many++
		}
	}
	return many
}

// put: the chapter's words for Root and Child, error by error.
func (m *model) put(parent int, x api.Cap, rights int) (int, api.Errno) {
	if parent == atRoot {
		if rights < 1 || rights > 31 {
			return 0, api.ErrRights
		}
		if m.in(x.Obj) > 0 {
			return 0, api.ErrThere
		}
	} else {
		above, there := m.at(parent)
		if !there {
			return 0, api.ErrNone
		}
		if above.Cap.Obj != x.Obj {
			return 0, api.ErrCap
		}
		if rights < 1 || rights > 31 || rights&^above.Rights != 0 {
			return 0, api.ErrRights
		}
		if _, there := m.find(x); there {
			return 0, api.ErrThere
		}
	}
	if len(m.list) == m.most {
		return 0, api.ErrEntry
	}
	n := 0
	for m.place(n) >= 0 {
		n++
	}
	m.list = append(m.list, held{n, api.Token{Cap: x, Rights: rights, Parent: max(parent, -1)}})
	return n, api.OK
}

// down: the subtree of a token, by recursion.
func (m *model) down(n int) []held {
	out := []held{m.list[m.place(n)]}
	for _, h := range m.list {
		if h.token.Parent == n {
			out = append(out, m.down(h.n)...)
		}
	}
	return out
}

func (m *model) drop(n int) ([]api.Cap, api.Errno) {
	if m.place(n) < 0 {
		return nil, api.ErrNone
	}
	var out []api.Cap
	for _, h := range m.down(n) {
		out = append(out, h.token.Cap)
	}
	m.list = slices.DeleteFunc(m.list, func(h held) bool { return slices.Contains(out, h.token.Cap) })
	return out, api.OK
}

func (m *model) of(obj int) []api.Token {
	root := slices.IndexFunc(m.list, func(h held) bool { return h.token.Cap.Obj == obj && h.token.Parent == -1 })
	if root < 0 {
		return nil
	}
	var out []api.Token
	row := m.down(m.list[root].n)
	for _, h := range row {
		h.token.Parent = slices.IndexFunc(row, func(above held) bool { return above.n == h.token.Parent })
		out = append(out, h.token)
	}
	return out
}

func word(obj int, w uint64) api.Cap { return api.Cap{Obj: obj, Pass: api.Word{Lo: w}} }

func fresh(t *testing.T, entries, knob int) *catalogue.Catalogue {
	t.Helper()
	c, code := catalogue.New(entries, knob)
	if c == nil || code != api.OK {
		t.Fatalf("P11.1: New(%d, %d): %v, %d", entries, knob, c != nil, code)
	}
	return c
}

// put puts a token in by Root or by Child.
func put(c *catalogue.Catalogue, parent int, x api.Cap, rights int) (int, api.Errno) {
	if parent == atRoot {
		return c.Root(x, rights)
	}
	return c.Child(parent, x, rights)
}

// wantPut puts a token in and holds the answer against a number.
func wantPut(t *testing.T, c *catalogue.Catalogue, parent int, x api.Cap, rights int, n int, code api.Errno) {
	t.Helper()
	if got, e := put(c, parent, x, rights); got != n || e != code {
		t.Fatalf("P11.2, P11.3: %v with %d below %d: %d, %d, not %d, %d", x, rights, parent, got, e, n, code)
	}
}

// wantSame holds all that a catalogue tells against the model.
func wantSame(t *testing.T, c *catalogue.Catalogue, m *model, objs []int, caps []api.Cap) {
	t.Helper()
	for _, n := range append([]int{math.MinInt, math.MaxInt, m.most + 1}, numbers(-2, m.most)...) {
		got, ok := c.At(n)
		want, there := m.at(n)
		if got != want || ok != there {
			t.Fatalf("P11.4: At(%d) = %v, %v, not %v, %v", n, got, ok, want, there)
		}
	}
	for _, x := range caps {
		got, ok := c.Find(x)
		want, there := m.find(x)
		if got != want || ok != there {
			t.Fatalf("P11.4: Find(%v) = %d, %v, not %d, %v", x, got, ok, want, there)
		}
	}
	sum := 0
	for _, obj := range objs {
		if got, want := c.Of(obj), m.of(obj); !slices.Equal(got, want) {
			t.Fatalf("P11.6: Of(%d) = %v, not %v", obj, got, want)
		}
		if got, want := c.In(obj), m.in(obj); got != want {
			t.Fatalf("P11.7: In(%d) = %d, not %d", obj, got, want)
		}
		sum += c.In(obj)
	}
	if c.Count() != len(m.list) || c.Count() != sum {
		t.Fatalf("P11.7: Count() = %d, not %d; In sums up to %d", c.Count(), len(m.list), sum)
	}
}

// numbers: from first to last.
func numbers(first, last int) []int {
	var out []int
	for n := first; n <= last; n++ {
		out = append(out, n)
	}
	return out
}

// dropped stands for rights where a step is Drop(parent).
const dropped = -1000

// step: one that puts a token in, or drops one.
type step struct {
	parent int
	x      api.Cap
	rights int
}

// do does a step to the catalogue and to the model, and holds the answers against each other.
func (s step) do(t *testing.T, c *catalogue.Catalogue, m *model) {
	t.Helper()
	if s.rights == dropped {
		got, code := c.Drop(s.parent)
		want, e := m.drop(s.parent)
		if !slices.Equal(got, want) || code != e {
			t.Fatalf("P11.5: Drop(%d) = %v, %d, not %v, %d", s.parent, got, code, want, e)
		}
		return
	}
	got, code := put(c, s.parent, s.x, s.rights)
	want, e := m.put(s.parent, s.x, s.rights)
	if got != want || code != e {
		t.Fatalf("P11.2, P11.3: %+v: %d, %d, not %d, %d", s, got, code, want, e)
	}
}

func TestNewBounds(t *testing.T) { // P11.1
	for _, entries := range []int{math.MinInt, -256, -1, 0, 1, 2, 255, 256, 257, 512, 1 << 40, math.MaxInt} {
		for _, knob := range []int{math.MinInt, -64, -1, 0, 1, 63, 64, 65, 128, math.MaxInt} {
			c, code := catalogue.New(entries, knob)
			if may := entries >= 1 && entries <= api.MaxEntries && knob >= 0 && knob <= api.MaxKnob; may {
				if c == nil || code != api.OK {
					t.Fatalf("P11.1: New(%d, %d): %d", entries, knob, code)
				}
				wantSame(t, c, &model{most: entries}, []int{0, 1, -1}, []api.Cap{{}, word(1, 1)})
			} else if c != nil || code != api.ErrConfig {
				t.Fatalf("P11.1: New(%d, %d): %v, %d", entries, knob, c != nil, code)
			}
		}
	}
}

// TestRoom: exactly as many tokens as New was told go in, of one object or of as many objects.
func TestRoom(t *testing.T) { // P11.1, P11.2, P11.3
	for most := 1; most <= api.MaxEntries; most++ {
		one, many := fresh(t, most, most%65), fresh(t, most, 64-most%65)
		for n := range most {
			parent := n - 1
			if n == 0 {
				parent = atRoot
			}
			wantPut(t, one, parent, word(0, uint64(n)), 31, n, api.OK)
			wantPut(t, many, atRoot, word(n, 0), 31, n, api.OK)
		}
		wantPut(t, one, 0, word(0, uint64(most)), 31, 0, api.ErrEntry)
		wantPut(t, one, atRoot, word(1, 0), 31, 0, api.ErrEntry)
		wantPut(t, many, most-1, word(most-1, 1), 31, 0, api.ErrEntry)
		wantPut(t, many, atRoot, word(most, 0), 31, 0, api.ErrEntry)
		if one.Count() != most || one.In(0) != most || many.Count() != most || many.In(most-1) != 1 || many.In(most) != 0 {
			t.Fatalf("P11.7: %d, %d, %d, %d", one.Count(), one.In(0), many.Count(), many.In(most-1))
		}
	}
}

// TestExamples: the chapter's, one by one.
func TestExamples(t *testing.T) { // P11.1 to P11.7
	a, b, c, d := word(7, 1), word(7, 2), word(7, 3), word(8, 1)
	x, m := fresh(t, 3, 64), &model{most: 3}
	for _, s := range []struct {
		parent int
		is     api.Cap
		rights int
		n      int
		code   api.Errno
	}{
		{atRoot, a, 31, 0, api.OK},
		{atRoot, b, 31, 0, api.ErrThere},
		{atRoot, d, 0, 0, api.ErrRights},
		{atRoot, d, 32, 0, api.ErrRights},
		{0, b, 3, 1, api.OK},
		{0, b, 3, 0, api.ErrThere},
		{1, c, 4, 0, api.ErrRights},
		{9, c, 1, 0, api.ErrNone},
		{-1, c, 1, 0, api.ErrNone},
		{0, d, 1, 0, api.ErrCap},
		{1, c, 1, 2, api.OK},
		{atRoot, d, 31, 0, api.ErrEntry},
		{atRoot, a, 31, 0, api.ErrThere},
	} {
		wantPut(t, x, s.parent, s.is, s.rights, s.n, s.code)
		if n, code := m.put(s.parent, s.is, s.rights); n != s.n || code != s.code {
			t.Fatalf("the model has %d, %d for %+v", n, code, s)
		}
	}
	objs, caps := []int{7, 8, 9}, []api.Cap{a, b, c, d}
	wantSame(t, x, m, objs, caps)
	if l := x.Of(7); !slices.Equal(l, []api.Token{{Cap: a, Rights: 31, Parent: -1}, {Cap: b, Rights: 3, Parent: 0}, {Cap: c, Rights: 1, Parent: 1}}) || len(x.Of(8)) != 0 {
		t.Errorf("P11.6: %v, %v", l, x.Of(8))
	}
	if l, code := x.Drop(1); !slices.Equal(l, []api.Cap{b, c}) || code != api.OK {
		t.Errorf("P11.5: %v, %d", l, code)
	}
	if l, code := x.Drop(1); l != nil || code != api.ErrNone || x.Count() != 1 {
		t.Errorf("P11.5: %v, %d; %d tokens", l, code, x.Count())
	}
	wantPut(t, x, atRoot, d, 1, 1, api.OK)
	wantPut(t, x, 0, c, 31, 2, api.OK)
	if l := x.Of(8); !slices.Equal(l, []api.Token{{Cap: d, Rights: 1, Parent: -1}}) {
		t.Errorf("P11.6: %v", l)
	}
}

// TestRights: which rights a root may have, and which a child below each.
func TestRights(t *testing.T) { // P11.2, P11.3, P11.8
	wild := append([]int{math.MinInt, math.MinInt + 1, -31, math.MaxInt, 1 << 5, 1<<32 + 1, 1<<62 + 3}, numbers(-3, 70)...)
	for _, rights := range wild {
		c, m := fresh(t, 2, 8), &model{most: 2}
		step{atRoot, word(1, 0), rights}.do(t, c, m)
		wantSame(t, c, m, []int{1}, []api.Cap{word(1, 0)})
		if (len(m.list) == 1) != (rights >= 1 && rights <= 31) {
			t.Fatalf("P11.2: rights %d: %d tokens", rights, len(m.list))
		}
		for _, weaker := range wild {
			step{0, word(1, 1), weaker}.do(t, c, m)
			if k, there := c.At(1); there && (k.Rights != weaker || k.Rights&^rights != 0) {
				t.Fatalf("P11.8: %d below %d: %v", weaker, rights, k)
			}
			step{1, api.Cap{}, dropped}.do(t, c, m)
		}
	}
}

// TestGrandchildren: a child's rights are held against its parent's, not the root's.
func TestGrandchildren(t *testing.T) { // P11.3, P11.8
	for above := 1; above <= 31; above++ {
		for below := 1; below <= 31; below++ {
			c := fresh(t, 3, 3)
			wantPut(t, c, atRoot, word(1, 0), 31, 0, api.OK)
			wantPut(t, c, 0, word(1, 1), above, 1, api.OK)
			if below&^above != 0 {
				wantPut(t, c, 1, word(1, 2), below, 0, api.ErrRights)
			} else {
				wantPut(t, c, 1, word(1, 2), below, 2, api.OK)
			}
		}
	}
}

// TestWhichError: of the errors that apply the one that the chapter names first, and nothing has changed.
func TestWhichError(t *testing.T) { // P11.2, P11.3, P11.5
	a, b, d := word(1, 1), word(1, 2), word(2, 1)
	for _, full := range []int{0, 1} { // with room for one more; full
		c, m := fresh(t, 4-full, 0), &model{most: 4 - full}
		step{atRoot, a, 15}.do(t, c, m)
		step{0, b, 3}.do(t, c, m)
		step{atRoot, d, 31}.do(t, c, m)
		for _, s := range []struct {
			parent int
			x      api.Cap
			rights int
			code   api.Errno
		}{
			{atRoot, a, 0, api.ErrRights},
			{atRoot, word(3, 3), 32, api.ErrRights},
			{atRoot, a, 31, api.ErrThere},
			{atRoot, b, 1, api.ErrThere},
			{atRoot, word(1, 9), 1, api.ErrThere},
			{atRoot, word(2, 9), 1, api.ErrThere},
			{3, d, 0, api.ErrNone},
			{-1, a, 0, api.ErrNone},
			{-2, a, 1, api.ErrNone},
			{4, a, 1, api.ErrNone},
			{256, a, 1, api.ErrNone},
			{math.MinInt, a, 1, api.ErrNone},
			{math.MaxInt, a, 1, api.ErrNone},
			{0, d, 0, api.ErrCap},
			{0, word(3, 1), 31, api.ErrCap},
			{2, a, 31, api.ErrCap},
			{0, a, 16, api.ErrRights},
			{0, b, 0, api.ErrRights},
			{1, b, 4, api.ErrRights},
			{0, word(1, 9), 31, api.ErrRights},
			{0, a, 1, api.ErrThere},
			{0, b, 1, api.ErrThere},
			{1, a, 1, api.ErrThere},
			{1, b, 1, api.ErrThere},
			{2, d, 31, api.ErrThere},
		} {
			wantPut(t, c, s.parent, s.x, s.rights, 0, s.code)
			wantSame(t, c, m, []int{0, 1, 2, 3}, []api.Cap{a, b, d, word(3, 3), word(1, 9), {}})
		}
		for _, n := range []int{math.MinInt, -2, -1, 3, 4, 256, math.MaxInt} {
			if l, code := c.Drop(n); l != nil || code != api.ErrNone {
				t.Fatalf("P11.5: Drop(%d): %v, %d", n, l, code)
			}
			wantSame(t, c, m, []int{0, 1, 2, 3}, []api.Cap{a, b, d})
		}
		if full == 1 {
			wantPut(t, c, atRoot, word(3, 3), 31, 0, api.ErrEntry)
			wantPut(t, c, 1, word(1, 9), 3, 0, api.ErrEntry)
		} else {
			wantPut(t, c, 1, word(1, 9), 3, 3, api.OK)
		}
	}
}

// TestNothingIsZero: object 0 and the word 0 are as good as others, and not there by themselves.
func TestNothingIsZero(t *testing.T) { // P11.2, P11.4, P11.6, P11.7
	none := api.Cap{}
	c, m := fresh(t, 3, 0), &model{most: 3}
	look := func() { wantSame(t, c, m, []int{0, 1}, []api.Cap{none, word(0, 1), word(1, 0)}) }
	look()
	for _, s := range []step{{atRoot, word(1, 0), 31}, {1, none, dropped}, {atRoot, none, 31}, {1, word(0, 1), 1}, {1, none, 1}, {0, none, dropped}, {atRoot, word(0, 1), 2}, {0, none, 2}, {0, none, dropped}, {0, none, dropped}} {
		s.do(t, c, m)
		look()
	}
}

// TestEdgesOfCaps: an object's number may be any int, a word any.
func TestEdgesOfCaps(t *testing.T) { // P11.2, P11.3
	objs := []int{math.MinInt, math.MinInt + 1, -1, 0, 1, api.MaxId, api.MaxId + 1, math.MaxInt}
	words := []api.Word{{}, {Lo: 1}, {Hi: 1}, {Hi: 1, Lo: 1}, {Lo: math.MaxUint64}, {Hi: math.MaxUint64}, {Hi: math.MaxUint64, Lo: math.MaxUint64}, {Hi: 1 << 63}}
	for _, knob := range []int{0, 1, 7, 64} {
		c, m := fresh(t, 64, knob), &model{most: 64}
		var caps []api.Cap
		for i, obj := range objs {
			for j, w := range words {
				x := api.Cap{Obj: obj, Pass: w}
				caps = append(caps, x)
				if j == 0 {
					step{atRoot, x, 31}.do(t, c, m)
				} else {
					step{i*len(words) + j/2, x, 31}.do(t, c, m)
				}
			}
		}
		if len(m.list) != 64 {
			t.Fatalf("the model has %d tokens", len(m.list))
		}
		wantSame(t, c, m, objs, caps)
		for i := range objs {
			step{i*len(words) + 1, api.Cap{}, dropped}.do(t, c, m)
			wantSame(t, c, m, objs, caps)
		}
	}
}

// TestLowestFree: numbers that were freed are given again, the lowest first, whatever the order in which they were freed.
func TestLowestFree(t *testing.T) { // P11.2, P11.3, P11.5
	r := rand.New(rand.NewSource(11))
	for range 200 {
		c := fresh(t, 12, 64)
		for n := range 12 {
			wantPut(t, c, atRoot, word(n, 0), 31, n, api.OK)
		}
		gone := r.Perm(12)[:1+r.Intn(11)]
		for _, n := range gone {
			if l, code := c.Drop(n); code != api.OK || !slices.Equal(l, []api.Cap{word(n, 0)}) {
				t.Fatalf("P11.5: Drop(%d): %v, %d", n, l, code)
			}
		}
		slices.Sort(gone)
		for i, n := range gone {
			wantPut(t, c, atRoot, word(100+i, 0), 1, n, api.OK)
		}
		wantPut(t, c, atRoot, word(500, 0), 1, 0, api.ErrEntry)
	}
}

// TestAllShortPasts: every list of few steps, in a catalogue of three.
func TestAllShortPasts(t *testing.T) { // P11.2 to P11.8
	objs := []int{0, 1, 2}
	caps := []api.Cap{word(1, 0), word(1, 1), word(1, 2), word(2, 0), {}}
	var steps []step
	for n := -1; n <= 3; n++ {
		steps = append(steps, step{n, api.Cap{}, dropped})
	}
	for _, x := range caps[:4] {
		steps = append(steps, step{atRoot, x, 31}, step{0, x, 31}, step{1, x, 31})
	}
	steps = append(steps, step{2, caps[1], 31}, step{2, caps[2], 31})
	var past []step
	var try func(left int)
	try = func(left int) {
		c, m := fresh(t, 3, 1), &model{most: 3}
		for _, s := range past {
			s.do(t, c, m)
		}
		wantSame(t, c, m, objs, caps)
		if left == 0 {
			return
		}
		for _, s := range steps {
			past = append(past, s)
			try(left - 1)
			past = past[:len(past)-1]
		}
	}
	try(4)
}

// chance gives a step by chance, of few objects and words, so that refusals are common.
func chance(r *rand.Rand, m *model, objs, words int) step {
	x := api.Cap{Obj: r.Intn(objs), Pass: api.Word{Hi: uint64(r.Intn(2)), Lo: uint64(r.Intn(words))}}
	n := r.Intn(m.most+3) - 1
	if len(m.list) > 0 && r.Intn(8) > 0 {
		h := m.list[r.Intn(len(m.list))]
		n = h.n
		if r.Intn(8) > 0 {
			x.Obj = h.token.Cap.Obj
		}
	}
	rights := r.Intn(34) - 1
	if r.Intn(2) == 0 {
		rights = 31
		if above, there := m.at(n); there {
			rights = above.Rights
		}
	}
	switch r.Intn(10) {
	case 0:
		return step{n, api.Cap{}, dropped}
	case 1, 2:
		return step{atRoot, x, rights}
	}
	return step{n, x, rights}
}

// TestChance: long pasts by chance, at many knobs at once: a knob shows nowhere.
func TestChance(t *testing.T) { // P11.2 to P11.8
	r := rand.New(rand.NewSource(1111))
	for _, most := range []int{1, 2, 3, 5, 8, 20, 60} {
		objs, words := 1+most/4, 1+most/2
		var caps []api.Cap
		for obj := range objs + 1 {
			for w := range words + 1 {
				caps = append(caps, word(obj, uint64(w)), api.Cap{Obj: obj, Pass: api.Word{Hi: 1, Lo: uint64(w)}})
			}
		}
		for range 4 {
			ms := []*model{{most: most}, {most: most}, {most: most}, {most: most}}
			var cs []*catalogue.Catalogue
			for _, knob := range []int{0, 2, 17, 64} {
				cs = append(cs, fresh(t, most, knob))
			}
			for range 100 + 10*most {
				s := chance(r, ms[0], objs, words)
				for i, c := range cs {
					s.do(t, c, ms[i])
				}
				for i, c := range cs {
					wantSame(t, c, ms[i], numbers(0, objs), caps)
				}
			}
		}
	}
}

// TestDropLeavesTheRest: each subtree of a forest by chance, dropped: all others keep their numbers, rights, parents and order.
func TestDropLeavesTheRest(t *testing.T) { // P11.5, P11.8
	r := rand.New(rand.NewSource(115))
	for range 60 {
		var steps []step
		grown := &model{most: 24}
		for len(grown.list) < 24 {
			s := chance(r, grown, 3, 40)
			if s.rights != dropped {
				if _, code := grown.put(s.parent, s.x, s.rights); code == api.OK {
					steps = append(steps, s)
				}
			}
		}
		for n := range 24 {
			c, m := fresh(t, 24, 64), &model{most: 24}
			for _, s := range steps {
				s.do(t, c, m)
			}
			wasRoot := m.list[m.place(n)].token
			step{n, api.Cap{}, dropped}.do(t, c, m)
			wantSame(t, c, m, numbers(0, 3), nil)
			if obj := wasRoot.Cap.Obj; wasRoot.Parent == -1 && (c.In(obj) != 0 || len(c.Of(obj)) != 0) {
				t.Fatalf("P11.8: behind Drop of its root object %d has %v", obj, c.Of(obj))
			}
			before := c.Count()
			step{n, api.Cap{}, dropped}.do(t, c, m)
			if c.Count() != before {
				t.Fatalf("P11.5: the second Drop(%d) took tokens away", n)
			}
		}
	}
}

// TestChainAndStar: the deepest and the widest catalogue, dropped from each end.
func TestChainAndStar(t *testing.T) { // P11.5, P11.6
	const most = api.MaxEntries
	for _, deep := range []int{0, 1} {
		c := fresh(t, most, 64*deep)
		var caps []api.Cap
		for n := range most {
			caps = append(caps, word(5, uint64(n)))
			switch {
			case n == 0:
				wantPut(t, c, atRoot, caps[n], 31, n, api.OK)
			default:
				wantPut(t, c, (n-1)*deep, caps[n], 31, n, api.OK)
			}
		}
		l := c.Of(5)
		if len(l) != most {
			t.Fatalf("P11.6: %d tokens", len(l))
		}
		for i, k := range l {
			want := (i - 1) * deep
			if i == 0 {
				want = -1
			}
			if k != (api.Token{Cap: caps[i], Rights: 31, Parent: want}) {
				t.Fatalf("P11.6: %d: %v", i, k)
			}
		}
		if l, code := c.Drop(most - 1); code != api.OK || !slices.Equal(l, caps[most-1:]) {
			t.Fatalf("P11.5: %v, %d", l, code)
		}
		if l, code := c.Drop(0); code != api.OK || !slices.Equal(l, caps[:most-1]) {
			t.Fatalf("P11.5: %v, %d", l, code)
		}
		wantSame(t, c, &model{most: most}, []int{5}, caps)
	}
}

// TestAgain: a capability that was dropped may come again, elsewhere in the tree and with other rights.
func TestAgain(t *testing.T) { // P11.3, P11.5
	c, m := fresh(t, 4, 64), &model{most: 4}
	caps := []api.Cap{word(1, 0), word(1, 1), word(1, 2), word(1, 3)}
	for _, s := range []step{
		{atRoot, caps[0], 31}, {0, caps[1], 7}, {1, caps[2], 3}, {0, caps[3], 5},
		{1, api.Cap{}, dropped},           // 1 and 2 are free
		{3, caps[2], 4}, {0, caps[1], 31}, // 2's capability has the number 1 now, below 3
		{0, api.Cap{}, dropped},               // all
		{atRoot, caps[3], 1}, {0, caps[0], 1}, // what was a child is the root
		{0, api.Cap{}, dropped}, {1, caps[0], 1}, // nothing is left
		{atRoot, caps[0], 16}, {0, caps[1], 17}, // rights that the parent lacks
		{0, caps[1], 16}, {1, caps[0], 16}, // the root, again
		{1, caps[2], 16}, {0, caps[3], 16}, // full
		{2, word(1, 9), 16}, {atRoot, word(2, 0), 1}, // no room
	} {
		s.do(t, c, m)
		wantSame(t, c, m, []int{1, 2}, append([]api.Cap{word(1, 9), word(2, 0)}, caps...))
	}
	if c.Count() != 4 {
		t.Fatalf("P11.7: %d tokens", c.Count())
	}
}

// scribble writes over a list and its spare room.
func scribble[T any](l []T, v T) {
	l = l[:cap(l)]
	for i := range l {
		l[i] = v
	}
}

// TestNewMemory: what is done to a list that was answered shows nowhere.
func TestNewMemory(t *testing.T) { // P11.9
	bad := api.Token{Cap: word(-9, 9), Rights: -9, Parent: -9}
	for _, many := range []int{1, 2, 3, 5, 9} {
		c, m := fresh(t, 12, 5), &model{most: 12}
		caps := []api.Cap{word(2, 0)}
		step{atRoot, caps[0], 31}.do(t, c, m)
		for n := range many {
			caps = append(caps, word(1, uint64(n)))
			parent := 1 + n/3
			if n == 0 {
				parent = atRoot
			}
			step{parent, caps[1+n], 31}.do(t, c, m)
		}
		first, second := c.Of(1), c.Of(1)
		want := slices.Clone(second)
		scribble(first, bad)
		if !slices.Equal(second, want) {
			t.Fatalf("P11.9: two lists share memory: %v", second)
		}
		wantSame(t, c, m, []int{1, 2}, caps)
		gone, _ := c.Drop(1)
		m.drop(1)
		for n := range many { // and lists that were answered stay as they are
			step{atRoot, word(3+n, 0), 1}.do(t, c, m)
		}
		other, _ := c.Drop(1)
		m.drop(1)
		if !slices.Equal(second, want) || len(gone) != many || !slices.Equal(other, []api.Cap{word(3, 0)}) {
			t.Fatalf("P11.9: %v, %v, %v", second, gone, other)
		}
		scribble(gone, bad.Cap)
		scribble(other, bad.Cap)
		wantSame(t, c, m, numbers(0, 12), caps)
	}
}

// TestTwoShareNothing: two catalogues, each with a past of its own.
func TestTwoShareNothing(t *testing.T) { // P11.9
	r := rand.New(rand.NewSource(119))
	a, b := fresh(t, 10, 64), fresh(t, 10, 64)
	ma, mb := &model{most: 10}, &model{most: 10}
	for range 600 {
		chance(r, ma, 3, 6).do(t, a, ma)
		wantSame(t, b, mb, numbers(0, 3), nil)
		chance(r, mb, 3, 6).do(t, b, mb)
		wantSame(t, a, ma, numbers(0, 3), nil)
	}
}

// TestAskingChangesNothing: what is asked, however often, shows nowhere.
func TestAskingChangesNothing(t *testing.T) { // P11.4, P11.6, P11.7
	r := rand.New(rand.NewSource(117))
	c, m := fresh(t, 8, 3), &model{most: 8}
	for range 300 {
		for range r.Intn(4) {
			c.Find(word(r.Intn(3), uint64(r.Intn(4))))
			c.At(r.Intn(12) - 2)
			c.Of(r.Intn(4))
			c.In(r.Intn(4))
			c.Count()
		}
		chance(r, m, 3, 4).do(t, c, m)
		wantSame(t, c, m, numbers(0, 3), nil)
	}
}
