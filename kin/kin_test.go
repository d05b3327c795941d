package kin_test

import (
	"math"
	"math/rand"
	"slices"
	"testing"

	"sesame/api"
	"sesame/kin"
)

// born: a node and its parent (-1: it is a root).
type born struct{ n, parent int }

// model: what a forest should hold: its nodes, in the order in which they were made.
type model struct {
	most int
	held []born
}

func (m *model) find(n int) int {
	return slices.IndexFunc(m.held, func(b born) bool { return b.n == n })
}

func (m *model) children(n int) []int {
	var out []int
	for _, b := range m.held {
		if n >= 0 && b.parent == n {
			out = append(out, b.n)
		}
	}
	return out
}

func (m *model) enter(n, parent int) api.Errno {
	switch {
	case n < 0 || n >= m.most:
		return api.ErrNone
	case m.find(n) >= 0:
		return api.ErrThere
	}
	m.held = append(m.held, born{n, parent})
	return api.OK
}

func (m *model) Root(n int) api.Errno { return m.enter(n, -1) }

func (m *model) Child(parent, n int) api.Errno {
	if m.find(parent) < 0 {
		return api.ErrNone
	}
	return m.enter(n, parent)
}

func (m *model) Cut(n int) api.Errno {
	at := m.find(n)
	switch {
	case at < 0:
		return api.ErrNone
	case m.children(n) != nil:
		return api.ErrThere
	}
	m.held = slices.Delete(m.held, at, at+1)
	return api.OK
}

func (m *model) parent(n int) (int, bool) {
	at := m.find(n)
	if at < 0 {
		return 0, false
	}
	return m.held[at].parent, true
}

// The kinds of a step.
const (
	root = iota
	child
	cut
)

// step: a call that may change a forest.
type step struct{ kind, parent, n int }

// forest: what steps are done to, a Tree or its model.
type forest interface {
	Root(n int) api.Errno
	Child(parent, n int) api.Errno
	Cut(n int) api.Errno
}

func do(f forest, s step) api.Errno {
	switch s.kind {
	case root:
		return f.Root(s.n)
	case child:
		return f.Child(s.parent, s.n)
	}
	return f.Cut(s.n)
}

func mustNew(t *testing.T, most int) *kin.Tree {
	t.Helper()
	k, code := kin.New(most)
	if k == nil || code != api.OK {
		t.Fatalf("P9.1: New(%d): %v, %d", most, k, code)
	}
	return k
}

// mustDo does a step on both; their answers must be one.
func mustDo(t *testing.T, k *kin.Tree, m *model, s step) api.Errno {
	t.Helper()
	got, want := do(k, s), do(m, s)
	if got != want {
		t.Fatalf("P9.%d: %+v: %d, not %d; there are %v", s.kind+2, s, got, want, m.held)
	}
	return got
}

// wantNode holds all that a forest tells of a number against the model.
func wantNode(t *testing.T, k *kin.Tree, m *model, n int) {
	t.Helper()
	parent, there := m.parent(n)
	if p, ok := k.Parent(n); p != parent || ok != there || k.Has(n) != there {
		t.Fatalf("P9.5: Parent(%d): %d, %v, Has %v; want %d, %v", n, p, ok, k.Has(n), parent, there)
	}
	if got, want := k.Children(n), m.children(n); !slices.Equal(got, want) {
		t.Fatalf("P9.5: Children(%d): %v, not %v", n, got, want)
	}
}

// wantAll looks at each number, and at some that are none.
func wantAll(t *testing.T, k *kin.Tree, m *model) {
	t.Helper()
	for n := -2; n <= m.most+1; n++ {
		wantNode(t, k, m, n)
	}
	wantNode(t, k, m, math.MinInt)
	wantNode(t, k, m, math.MaxInt)
}

// wantForest holds a forest, by its own answers alone, against what follows.
func wantForest(t *testing.T, k *kin.Tree, most int) {
	t.Helper()
	for n := range most {
		p, there := k.Parent(n)
		if !there {
			continue
		}
		if p != -1 {
			among := 0
			for _, c := range k.Children(p) {
				if c == n {
					among++
				}
			}
			if among != 1 {
				t.Fatalf("P9.7: %d stands %d times among the children of %d", n, among, p)
			}
		}
		steps := 0
		for ; p != -1; steps++ {
			if p, there = k.Parent(p); !there || steps > most {
				t.Fatalf("P9.7: going up from %d meets no root", n)
			}
		}
	}
}

func TestNewOfEachSize(t *testing.T) { // P9.1
	for _, most := range []int{-1, -2, 1025, 1026, math.MinInt, math.MaxInt} {
		if k, code := kin.New(most); k != nil || code != api.ErrConfig {
			t.Errorf("P9.1: New(%d): %v, %d", most, k, code)
		}
	}
	for most := 0; most <= 1024; most++ {
		k := mustNew(t, most)
		for _, n := range []int{0, most / 2, most - 1} {
			if k.Has(n) || k.Cut(n) != api.ErrNone || k.Children(n) != nil {
				t.Fatalf("P9.1: New(%d) has the node %d", most, n)
			}
		}
		for _, n := range []int{-1, most, most + 1, math.MinInt, math.MaxInt} {
			if code := k.Root(n); code != api.ErrNone {
				t.Fatalf("P9.2: New(%d): Root(%d): %d", most, n, code)
			}
		}
		if most == 0 {
			continue
		}
		if code := k.Root(most - 1); code != api.OK {
			t.Fatalf("P9.1: New(%d): Root(%d): %d", most, most-1, code)
		}
		for _, n := range []int{-1, most, most + 1, math.MinInt, math.MaxInt} {
			if code := k.Child(most-1, n); code != api.ErrNone {
				t.Fatalf("P9.3: New(%d): Child(%d, %d): %d", most, most-1, n, code)
			}
		}
	}
}

func TestExamples(t *testing.T) { // P9.1 to P9.5
	k := mustNew(t, 4)
	is := func(what string, got, want api.Errno) {
		t.Helper()
		if got != want {
			t.Errorf("%s: %d, not %d", what, got, want)
		}
	}
	row := func(n int, want ...int) {
		t.Helper()
		if got := k.Children(n); !slices.Equal(got, want) {
			t.Errorf("P9.5: Children(%d): %v, not %v", n, got, want)
		}
	}
	is("P9.2: Root(4)", k.Root(4), api.ErrNone)
	is("P9.2: Root(-1)", k.Root(-1), api.ErrNone)
	is("P9.2: Root(2)", k.Root(2), api.OK)
	is("P9.2: Root(2) again", k.Root(2), api.ErrThere)
	is("P9.3: Child(2, 0)", k.Child(2, 0), api.OK)
	is("P9.3: Child(2, 3)", k.Child(2, 3), api.OK)
	is("P9.3: Child(0, 1)", k.Child(0, 1), api.OK)
	is("P9.3: Child(2, 0) again", k.Child(2, 0), api.ErrThere)
	is("P9.3: Child(9, 1)", k.Child(9, 1), api.ErrNone)
	is("P9.3: Child(2, 4)", k.Child(2, 4), api.ErrNone)
	row(2, 0, 3)
	row(0, 1)
	for _, c := range []struct {
		n, parent int
		there     bool
	}{{1, 0, true}, {2, -1, true}, {7, 0, false}} {
		if p, there := k.Parent(c.n); p != c.parent || there != c.there {
			t.Errorf("P9.5: Parent(%d): %d, %v", c.n, p, there)
		}
	}
	is("P9.4: Cut(0)", k.Cut(0), api.ErrThere)
	is("P9.4: Cut(1)", k.Cut(1), api.OK)
	is("P9.4: Cut(0)", k.Cut(0), api.OK)
	row(2, 3)
	is("P9.3: Child(2, 0)", k.Child(2, 0), api.OK)
	row(2, 3, 0)
	is("P9.4: Cut(1) again", k.Cut(1), api.ErrNone)
}

// stepsOf gives every step with numbers from -1 to most.
func stepsOf(most int) []step {
	var out []step
	for n := -1; n <= most; n++ {
		out = append(out, step{root, 0, n}, step{cut, 0, n})
		for parent := -1; parent <= most; parent++ {
			out = append(out, step{child, parent, n})
		}
	}
	return out
}

// replay makes a forest and its model by steps that are all done.
func replay(t *testing.T, most int, past []step) (*kin.Tree, *model) {
	t.Helper()
	k, m := mustNew(t, most), &model{most: most}
	for _, s := range past {
		mustDo(t, k, m, s)
	}
	return k, m
}

// TestEachShortPast goes through all lists of steps that are done, and tries every step behind each of them.
func TestEachShortPast(t *testing.T) { // P9.2 to P9.5, P9.7
	for most, long := range []int{2, 7, 6, 5} {
		steps := stepsOf(most)
		pasts := [][]step{nil}
		for range long {
			var longer [][]step
			for _, past := range pasts {
				k, m := replay(t, most, past)
				for _, s := range steps {
					if mustDo(t, k, m, s) == api.OK {
						longer = append(longer, append(slices.Clone(past), s))
						wantAll(t, k, m)
						wantForest(t, k, most)
						k, m = replay(t, most, past)
					}
				}
				wantAll(t, k, m) // all that were refused changed nothing
			}
			pasts = longer
		}
	}
}

// TestRefusalChangesNothing tries wrong calls one by one, by every pair of numbers.
func TestRefusalChangesNothing(t *testing.T) { // P9.2, P9.3, P9.4
	past := []step{{root, 0, 2}, {child, 2, 0}, {child, 2, 3}, {child, 0, 1}, {root, 0, 5}}
	k, m := replay(t, 7, past)
	numbers := []int{math.MinInt, -1025, -1, 0, 1, 2, 3, 4, 5, 6, 7, 8, 1023, 1024, 1 << 32, 1<<32 + 2, math.MaxInt}
	refused := 0
	for _, n := range numbers {
		for _, parent := range numbers {
			for kind := root; kind <= cut; kind++ {
				s := step{kind, parent, n}
				if mustDo(t, k, m, s) == api.OK {
					k, m = replay(t, 7, past)
					continue
				}
				wantAll(t, k, m)
				refused++
			}
		}
	}
	if refused == 0 {
		t.Fatal("no call was refused")
	}
}

func TestErrorsInTheirOrder(t *testing.T) { // P9.3
	k := mustNew(t, 3)
	k.Root(0)
	for _, c := range []struct {
		parent, n int
		want      api.Errno
	}{
		{1, 0, api.ErrNone},  // the node is there, the parent is not
		{-1, 0, api.ErrNone}, // -1 is what Parent tells of a root, and no parent
		{3, 0, api.ErrNone},
		{1, 1, api.ErrNone}, // its own parent can't be there yet
		{0, 0, api.ErrThere},
		{0, 3, api.ErrNone},
		{1, 3, api.ErrNone},
	} {
		if code := k.Child(c.parent, c.n); code != c.want {
			t.Errorf("P9.3: Child(%d, %d): %d, not %d", c.parent, c.n, code, c.want)
		}
	}
	if l := k.Children(0); len(l) != 0 {
		t.Errorf("P9.3: Children(0): %v", l)
	}
}

// TestLongPast goes at random, so that numbers are used again under other parents.
func TestLongPast(t *testing.T) { // P9.2 to P9.5, P9.7
	r := rand.New(rand.NewSource(9))
	for _, most := range []int{1, 2, 5, 12, 40} {
		k, m := mustNew(t, most), &model{most: most}
		for range 3000 {
			s := step{r.Intn(3), r.Intn(most+2) - 1, r.Intn(most+2) - 1}
			if r.Intn(most) == 0 { // now and then a sweep, so that few are there too
				s.kind = cut
			}
			mustDo(t, k, m, s)
			wantNode(t, k, m, s.n)
			wantNode(t, k, m, s.parent)
			if r.Intn(10) == 0 {
				wantAll(t, k, m)
				wantForest(t, k, most)
			}
		}
		wantAll(t, k, m)
	}
}

// TestJustMadeAndCut: a node that is made and cut leaves no trace, whatever comes then.
func TestJustMadeAndCut(t *testing.T) { // P9.7
	r := rand.New(rand.NewSource(7))
	const most = 9
	k, m := mustNew(t, most), &model{most: most}
	for range 4000 {
		n, parent := r.Intn(most), r.Intn(most+1)-1
		code := k.Root(n)
		if parent >= 0 {
			if code == api.OK {
				k.Cut(n)
			}
			code = k.Child(parent, n)
		}
		if code == api.OK && k.Cut(n) != api.OK {
			t.Fatalf("P9.7: %d, just made, can't be cut", n)
		}
		wantAll(t, k, m)
		mustDo(t, k, m, step{r.Intn(3), r.Intn(most), r.Intn(most)})
	}
}

// TestSiblingsKeepTheirOrder cuts each of a row, and then two, wherever they stand.
func TestSiblingsKeepTheirOrder(t *testing.T) { // P9.4
	const most = 7
	first := []int{4, 1, 6, 0, 5, 2}
	for _, one := range first {
		for _, two := range first {
			k, m := mustNew(t, most), &model{most: most}
			mustDo(t, k, m, step{root, 0, 3})
			for _, n := range first {
				mustDo(t, k, m, step{child, 3, n})
			}
			mustDo(t, k, m, step{cut, 0, one})
			wantAll(t, k, m)
			mustDo(t, k, m, step{cut, 0, two})
			wantAll(t, k, m)
			mustDo(t, k, m, step{child, 3, one})
			wantAll(t, k, m)
			if l := k.Children(3); l[len(l)-1] != one {
				t.Fatalf("P9.3: %d came last, but the row is %v", one, l)
			}
		}
	}
}

func TestDeepestAndWidest(t *testing.T) { // P9.1, P9.3, P9.4
	const most = 1024
	chain, star := mustNew(t, most), mustNew(t, most)
	chain.Root(most - 1)
	star.Root(most - 1)
	for n := most - 2; n >= 0; n-- {
		if code := chain.Child(n+1, n); code != api.OK {
			t.Fatalf("P9.3: chain: Child(%d, %d): %d", n+1, n, code)
		}
		if code := star.Child(most-1, n); code != api.OK {
			t.Fatalf("P9.3: star: Child(%d, %d): %d", most-1, n, code)
		}
	}
	wantForest(t, chain, most)
	if p, there := chain.Parent(0); p != 1 || !there || !slices.Equal(chain.Children(1), []int{0}) {
		t.Fatalf("P9.5: chain: Parent(0): %d, %v", p, there)
	}
	l := star.Children(most - 1)
	for i, n := range l {
		if n != most-2-i {
			t.Fatalf("P9.5: star: child %d is %d", i, n)
		}
	}
	if len(l) != most-1 || star.Cut(most-1) != api.ErrThere {
		t.Fatalf("P9.4: star: %d children", len(l))
	}
	for n := range most {
		if n < most-1 && chain.Cut(n+1) != api.ErrThere {
			t.Fatalf("P9.4: chain: Cut(%d) ahead of its child", n+1)
		}
		if code := chain.Cut(n); code != api.OK {
			t.Fatalf("P9.4: chain: Cut(%d): %d", n, code)
		}
		if code := star.Cut(n); code != api.OK {
			t.Fatalf("P9.4: star: Cut(%d): %d", n, code)
		}
		if left := most - 2 - n; left >= 0 && !slices.Equal(star.Children(most-1), l[:left]) {
			t.Fatalf("P9.4: star: behind Cut(%d) the row is another", n)
		}
	}
}

// TestAnswersAreNewMemory writes over a row that was told, its spare room too.
func TestAnswersAreNewMemory(t *testing.T) { // P9.6
	past := []step{{root, 0, 0}}
	for n := 1; n < 12; n++ {
		past = append(past, step{child, 0, n})
		k, m := replay(t, 13, past)
		l, other := k.Children(0), k.Children(0)
		kept := slices.Clone(other)
		l = l[:cap(l)]
		for i := range l {
			l[i] = 12
		}
		if !slices.Equal(other, kept) {
			t.Fatalf("P9.6: two answers share memory: %v", other)
		}
		wantAll(t, k, m)
		mustDo(t, k, m, step{child, 0, 12})
		mustDo(t, k, m, step{cut, 0, 1})
		if !slices.Equal(other, kept) || slices.ContainsFunc(l, func(n int) bool { return n != 12 }) {
			t.Fatalf("P9.6: an answer changed later: %v, %v", other, l)
		}
		wantAll(t, k, m)
	}
}

func TestTwoForestsShareNothing(t *testing.T) { // P9.1, P9.6
	r := rand.New(rand.NewSource(3))
	a, b := mustNew(t, 6), mustNew(t, 6)
	ma, mb := &model{most: 6}, &model{most: 6}
	for range 2000 {
		mustDo(t, a, ma, step{r.Intn(3), r.Intn(6), r.Intn(6)})
		mustDo(t, b, mb, step{r.Intn(3), r.Intn(6), r.Intn(6)})
		wantAll(t, a, ma)
		wantAll(t, b, mb)
	}
}
