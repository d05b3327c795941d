package walk_test

import (
	"iter"
	"math"
	"math/rand"
	"slices"
	"testing"

	"sesame/api"
	"sesame/kin"
	"sesame/walk"
)

// born: a node and its parent (-1: it is a root).
type born struct{ n, parent int }

// plan: a forest as the list of its nodes, in the order in which they are made.
type plan []born

func (p plan) has(n int) bool {
	return slices.ContainsFunc(p, func(b born) bool { return b.n == n })
}

func (p plan) children(n int) []int {
	var out []int
	for _, b := range p {
		if b.parent == n {
			out = append(out, b.n)
		}
	}
	return out
}

// down, up, fall: the chapter's words, by recursion.
func (p plan) down(n int) []int {
	if !p.has(n) {
		return nil
	}
	out := []int{n}
	for _, c := range p.children(n) {
		out = append(out, p.down(c)...)
	}
	return out
}

func (p plan) up(n int) []int {
	for _, b := range p {
		if b.n == n {
			return append([]int{n}, p.up(b.parent)...)
		}
	}
	return nil
}

func (p plan) fall(n int) []int {
	if !p.has(n) {
		return nil
	}
	var out []int
	for _, c := range p.children(n) {
		out = append(out, p.fall(c)...)
	}
	return append(out, n)
}

func (p plan) make(t *testing.T, most int) *kin.Tree {
	t.Helper()
	k, code := kin.New(most)
	if code != api.OK {
		t.Fatalf("New(%d): %d", most, code)
	}
	for _, b := range p {
		if b.parent < 0 {
			code = k.Root(b.n)
		} else {
			code = k.Child(b.parent, b.n)
		}
		if code != api.OK {
			t.Fatalf("%+v of %v: %d", b, p, code)
		}
	}
	return k
}

// mirror gives the forest with each node's children in the other order.
func (p plan) mirror() plan {
	var out plan
	for next := []int{-1}; len(next) > 0; next = next[1:] {
		row := p.children(next[0])
		slices.Reverse(row)
		for _, n := range row {
			out = append(out, born{n, next[0]})
		}
		next = append(next, row...)
	}
	return out
}

// sample is the forest of the chapter's examples.
func sample() plan {
	return plan{{2, -1}, {0, 2}, {3, 2}, {1, 0}, {5, 3}, {4, -1}}
}

// told: all that is told of a forest's numbers and kin.
type told struct {
	there    bool
	parent   int
	children []int
}

func dump(k *kin.Tree, most int) []told {
	var out []told
	for n := range most {
		parent, there := k.Parent(n)
		out = append(out, told{there, parent, k.Children(n)})
	}
	return out
}

func wantDump(t *testing.T, k *kin.Tree, want []told) {
	t.Helper()
	same := func(a, b told) bool {
		return a.there == b.there && a.parent == b.parent && slices.Equal(a.children, b.children)
	}
	if got := dump(k, len(want)); !slices.EqualFunc(got, want, same) {
		t.Fatalf("P10.6: the forest has changed: %v, not %v", got, want)
	}
}

func collect(t *testing.T, what string, s iter.Seq[int]) []int {
	t.Helper()
	if s == nil {
		t.Fatalf("P10.3: %s is nil", what)
	}
	return slices.Collect(s)
}

// wantNode holds what is told of one number against the plan.
func wantNode(t *testing.T, k *kin.Tree, p plan, n int) {
	t.Helper()
	if got, want := collect(t, "Down", walk.Down(k, n)), p.down(n); !slices.Equal(got, want) {
		t.Fatalf("P10.1: Down(%d) of %v: %v, not %v", n, p, got, want)
	}
	if got, want := collect(t, "Up", walk.Up(k, n)), p.up(n); !slices.Equal(got, want) {
		t.Fatalf("P10.2: Up(%d) of %v: %v, not %v", n, p, got, want)
	}
	if got, want := walk.Fall(k, n), p.fall(n); !slices.Equal(got, want) {
		t.Fatalf("P10.5: Fall(%d) of %v: %v, not %v", n, p, got, want)
	}
}

// wantUnder holds Under of two numbers against the plan.
func wantUnder(t *testing.T, k *kin.Tree, p plan, a, n int) {
	t.Helper()
	if got, want := walk.Under(k, a, n), slices.Contains(p.down(a), n); got != want {
		t.Fatalf("P10.4: Under(%d, %d) of %v: %v", a, n, p, got)
	}
}

// wantAll looks at each number, at some that are none, and at each pair of them; nothing changes by it.
func wantAll(t *testing.T, k *kin.Tree, p plan, most int) {
	t.Helper()
	before := dump(k, most)
	numbers := []int{math.MinInt, -2, math.MaxInt}
	for n := -1; n <= most+1; n++ {
		numbers = append(numbers, n)
	}
	for _, n := range numbers {
		wantNode(t, k, p, n)
		for _, a := range numbers {
			wantUnder(t, k, p, a, n)
		}
	}
	wantDump(t, k, before)
}

// wantFollows holds a forest against what follows, by its own answers alone.
func wantFollows(t *testing.T, p plan, most int) {
	t.Helper()
	k, other := p.make(t, most), p.mirror().make(t, most)
	for n := range most {
		down, fall := slices.Collect(walk.Down(k, n)), walk.Fall(k, n)
		turned := slices.Collect(walk.Down(other, n))
		slices.Reverse(turned)
		if !slices.Equal(fall, turned) {
			t.Fatalf("P10.7: Fall(%d): %v; the mirrored Down, backwards: %v", n, fall, turned)
		}
		up := slices.Collect(walk.Up(k, n))
		for a := range most {
			if walk.Under(k, a, n) != slices.Contains(up, a) {
				t.Fatalf("P10.7: Under(%d, %d): %v; Up: %v", a, n, walk.Under(k, a, n), up)
			}
		}
		slices.Sort(down)
		slices.Sort(fall)
		if !slices.Equal(down, fall) || len(slices.Compact(fall)) != len(down) {
			t.Fatalf("P10.7: %d: Down tells %v, Fall %v", n, down, fall)
		}
	}
	for n := range most {
		k := p.make(t, most)
		for _, gone := range walk.Fall(k, n) {
			if code := k.Cut(gone); code != api.OK {
				t.Fatalf("P10.7: Fall(%d) of %v: Cut(%d): %d", n, p, gone, code)
			}
		}
		if k.Has(n) {
			t.Fatalf("P10.7: %d is still there", n)
		}
	}
}

func TestExamples(t *testing.T) { // P10.1, P10.2, P10.4, P10.5
	k := sample().make(t, 6)
	row := func(what string, got []int, want ...int) {
		t.Helper()
		if !slices.Equal(got, want) {
			t.Errorf("%s: %v, not %v", what, got, want)
		}
	}
	row("P10.1: Down(2)", collect(t, "Down(2)", walk.Down(k, 2)), 2, 0, 1, 3, 5)
	row("P10.1: Down(0)", collect(t, "Down(0)", walk.Down(k, 0)), 0, 1)
	row("P10.1: Down(9)", collect(t, "Down(9)", walk.Down(k, 9)))
	row("P10.2: Up(1)", collect(t, "Up(1)", walk.Up(k, 1)), 1, 0, 2)
	row("P10.2: Up(4)", collect(t, "Up(4)", walk.Up(k, 4)), 4)
	row("P10.5: Fall(2)", walk.Fall(k, 2), 1, 0, 5, 3, 2)
	row("P10.5: Fall(4)", walk.Fall(k, 4), 4)
	row("P10.5: Fall(-1)", walk.Fall(k, -1))
	for _, c := range []struct {
		a, n int
		want bool
	}{{2, 5, true}, {2, 2, true}, {0, 5, false}, {5, 2, false}, {4, 2, false}, {7, 7, false}} {
		if got := walk.Under(k, c.a, c.n); got != c.want {
			t.Errorf("P10.4: Under(%d, %d): %v", c.a, c.n, got)
		}
	}
	wantAll(t, k, sample(), 6)
	wantFollows(t, sample(), 6)
}

// grow hands every forest of the nodes 0 to most - 1, made in every order, with some of them left out, to look.
func grow(p plan, most int, look func(plan)) {
	look(p)
	for n := range most {
		if p.has(n) {
			continue
		}
		for parent := -1; parent < most; parent++ {
			if parent < 0 || p.has(parent) {
				grow(append(slices.Clip(p), born{n, parent}), most, look)
			}
		}
	}
}

func TestEachSmallForest(t *testing.T) { // P10.1, P10.2, P10.4 to P10.7
	for most := range 5 {
		seen := 0
		grow(nil, most, func(p plan) {
			seen++
			wantAll(t, p.make(t, most), p, most)
			wantFollows(t, p, most)
		})
		if want := []int{1, 2, 7, 52, 749}[most]; seen != want {
			t.Errorf("%d forests of at most %d nodes", seen, most)
		}
	}
}

// chance gives a forest of all numbers below most; a node's parent is among the last few that were made, or is none.
func chance(r *rand.Rand, most, few int) plan {
	var p plan
	for _, n := range r.Perm(most) {
		parent := -1
		if len(p) > 0 && r.Intn(12) > 0 {
			parent = p[len(p)-1-r.Intn(min(few, len(p)))].n
		}
		p = append(p, born{n, parent})
	}
	return p
}

func TestChanceForests(t *testing.T) { // P10.1, P10.2, P10.4 to P10.7
	r := rand.New(rand.NewSource(10))
	for _, most := range []int{5, 9, 20, 40} {
		for _, few := range []int{1, 2, 3, most} {
			for range 6 {
				p := chance(r, most, few)
				wantAll(t, p.make(t, most), p, most)
				wantFollows(t, p, most)
			}
		}
	}
}

// TestNumbersUsedAgain cuts subtrees and lays their numbers elsewhere: nothing of what was is told.
func TestNumbersUsedAgain(t *testing.T) { // P10.1, P10.2, P10.4, P10.5, P10.7
	r := rand.New(rand.NewSource(11))
	const most = 14
	p := chance(r, most, 4)
	k := p.make(t, most)
	for range 300 {
		for _, n := range walk.Fall(k, r.Intn(most)) {
			if code := k.Cut(n); code != api.OK {
				t.Fatalf("P10.7: Cut(%d): %d", n, code)
			}
			p = slices.DeleteFunc(p, func(b born) bool { return b.n == n })
		}
		wantAll(t, k, p, most)
		for _, n := range r.Perm(most) {
			parent := r.Intn(most+1) - 1
			if p.has(n) || parent >= 0 && !p.has(parent) {
				continue
			}
			if parent < 0 {
				k.Root(n)
			} else {
				k.Child(parent, n)
			}
			p = append(p, born{n, parent})
		}
	}
}

// count gives from, from + by, .. of that many.
func count(from, by, many int) []int {
	out := make([]int, many)
	for i := range out {
		out[i] = from + i*by
	}
	return out
}

func TestDeepest(t *testing.T) { // P10.6
	const most = 1024
	chain := plan{{most - 1, -1}}
	for n := most - 2; n >= 0; n-- {
		chain = append(chain, born{n, n + 1})
	}
	k := chain.make(t, most)
	for _, n := range []int{most - 1, most - 2, 512, 1, 0} {
		if got := collect(t, "Down", walk.Down(k, n)); !slices.Equal(got, count(n, -1, n+1)) {
			t.Errorf("P10.6: chain: Down(%d): %v", n, got)
		}
		if got := walk.Fall(k, n); !slices.Equal(got, count(0, 1, n+1)) {
			t.Errorf("P10.6: chain: Fall(%d): %v", n, got)
		}
		if got := collect(t, "Up", walk.Up(k, n)); !slices.Equal(got, count(n, 1, most-n)) {
			t.Errorf("P10.6: chain: Up(%d): %v", n, got)
		}
		for _, a := range []int{most, most - 1, 513, 512, 511, 1, 0, -1} {
			if got := walk.Under(k, a, n); got != (a >= n && a < most) {
				t.Errorf("P10.6: chain: Under(%d, %d): %v", a, n, got)
			}
		}
	}
	wantNode(t, k, chain, most)
	for _, n := range walk.Fall(k, most-1) {
		if code := k.Cut(n); code != api.OK {
			t.Fatalf("P10.7: chain: Cut(%d): %d", n, code)
		}
	}
}

func TestWidest(t *testing.T) { // P10.1, P10.5, P10.7
	const most = 1024
	star := plan{{0, -1}}
	for n := most - 1; n > 0; n-- {
		star = append(star, born{n, 0})
	}
	k := star.make(t, most)
	row := count(most-1, -1, most-1)
	if got := collect(t, "Down", walk.Down(k, 0)); !slices.Equal(got, append([]int{0}, row...)) {
		t.Errorf("P10.1: star: %v", got)
	}
	if got := walk.Fall(k, 0); !slices.Equal(got, append(slices.Clone(row), 0)) {
		t.Errorf("P10.5: star: %v", got)
	}
	for _, n := range []int{1, 512, most - 1} {
		wantNode(t, k, star, n)
		wantUnder(t, k, star, n, 0)
		wantUnder(t, k, star, 0, n)
	}
}

func TestNeverNil(t *testing.T) { // P10.3
	none, _ := kin.New(0)
	for _, k := range []*kin.Tree{none, sample().make(t, 6), sample().make(t, 1024)} {
		for _, n := range []int{math.MinInt, -1, 0, 2, 5, 6, 7, 1023, 1024, math.MaxInt} {
			if walk.Down(k, n) == nil || walk.Up(k, n) == nil {
				t.Errorf("P10.3: of %d: nil", n)
			}
		}
	}
	for _, n := range []int{-1, 0, 1} {
		wantNode(t, none, nil, n)
		wantUnder(t, none, nil, n, n)
	}
}

// ways gives what is ranged over, by name: of the sample both of them tell at least three.
func ways(k *kin.Tree) map[string]iter.Seq[int] {
	return map[string]iter.Seq[int]{"Down": walk.Down(k, 2), "Up": walk.Up(k, 1)}
}

func sampleOf(name string) []int {
	if name == "Down" {
		return sample().down(2)
	}
	return sample().up(1)
}

// TestStoppedEarly stops behind each number that is told; the next range tells all again.
func TestStoppedEarly(t *testing.T) { // P10.3
	k := sample().make(t, 6)
	for name, s := range ways(k) {
		want := sampleOf(name)
		for long := 1; long <= len(want); long++ {
			var got []int
			for n := range s {
				got = append(got, n)
				if len(got) == long {
					break
				}
			}
			if !slices.Equal(got, want[:long]) {
				t.Errorf("P10.3: %s, stopped behind %d: %v", name, long, got)
			}
			asked := 0
			s(func(int) bool { asked++; return asked < long })
			if asked != long {
				t.Errorf("P10.3: %s, told to stop behind %d: asked %d times", name, long, asked)
			}
			if again := slices.Collect(s); !slices.Equal(again, want) {
				t.Errorf("P10.3: %s, behind a stop at %d: %v", name, long, again)
			}
		}
	}
}

func TestWithinItself(t *testing.T) { // P10.3
	k := sample().make(t, 6)
	for name, s := range ways(k) {
		want := sampleOf(name)
		var got, wanted []int
		for a := range s {
			for b := range s {
				for c := range s {
					got = append(got, a, b, c)
				}
				if a == b {
					break
				}
			}
		}
		for _, a := range want {
			for _, b := range want {
				for _, c := range want {
					wanted = append(wanted, a, b, c)
				}
				if a == b {
					break
				}
			}
		}
		if !slices.Equal(got, wanted) {
			t.Errorf("P10.3: %s within itself: %v, not %v", name, got, wanted)
		}
	}
}

// TestSideBySide pulls from two ranges over one iterator in turns.
func TestSideBySide(t *testing.T) { // P10.3
	k := sample().make(t, 6)
	for name, s := range ways(k) {
		one, stopOne := iter.Pull(s)
		two, stopTwo := iter.Pull(s)
		first, _ := one()
		got := []int{first}
		for n, ok := one(); ok; n, ok = one() {
			m, _ := two()
			got = append(got, n, m)
		}
		stopOne()
		stopTwo()
		want := sampleOf(name)
		wanted := want[:1:1]
		for i := 1; i < len(want); i++ {
			wanted = append(wanted, want[i], want[i-1])
		}
		if !slices.Equal(got, wanted) {
			t.Errorf("P10.3: %s side by side: %v, not %v", name, got, wanted)
		}
	}
}

// TestSeenWhenARangeBegins: what was done behind the call, but ahead of the range, is seen.
func TestSeenWhenARangeBegins(t *testing.T) { // P10.3
	k, _ := kin.New(6)
	down, up, late := walk.Down(k, 2), walk.Up(k, 1), walk.Down(k, 5)
	want := func(what string, s iter.Seq[int], want ...int) {
		t.Helper()
		if got := slices.Collect(s); !slices.Equal(got, want) {
			t.Errorf("P10.3: %s: %v, not %v", what, got, want)
		}
	}
	want("Down of none", down)
	want("Up of none", up)
	k.Root(2)
	want("Down", down, 2)
	k.Child(2, 0)
	k.Child(0, 1)
	k.Child(2, 3)
	k.Child(3, 5)
	want("Down", down, 2, 0, 1, 3, 5)
	want("Up", up, 1, 0, 2)
	want("Down of 5", late, 5)
	k.Cut(1)
	k.Child(3, 1)
	want("Down", down, 2, 0, 3, 5, 1)
	want("Up", up, 1, 3, 2)
	k.Cut(5)
	want("Down of 5, cut", late)
	k.Cut(1)
	want("Up of 1, cut", up)
	want("Down", down, 2, 0, 3)
}

// TestChangedInTheBody changes the forest at each step of a range: it goes on as it began, and the next sees the change.
func TestChangedInTheBody(t *testing.T) { // P10.3
	change := func(k *kin.Tree) {
		for _, n := range []int{1, 5, 3} {
			k.Cut(n)
		}
		k.Child(4, 1)
		k.Child(0, 5)
		k.Child(5, 3)
	}
	after := map[string][]int{"Down": {2, 0, 5, 3}, "Up": {1, 4}}
	for name := range after {
		want := sampleOf(name)
		for at := range want {
			k := sample().make(t, 6)
			s := ways(k)[name]
			var got, inner []int
			for n := range s {
				got = append(got, n)
				if len(got) == at+1 {
					change(k)
					inner = slices.Collect(s)
				}
			}
			if !slices.Equal(got, want) {
				t.Errorf("P10.3: %s, changed at step %d: %v, not %v", name, at, got, want)
			}
			if again := slices.Collect(s); !slices.Equal(again, after[name]) || !slices.Equal(inner, again) {
				t.Errorf("P10.3: %s, changed at step %d: then %v, and %v within", name, at, again, inner)
			}
		}
	}
}

// TestEmptiedInTheBody cuts the whole forest at the first step.
func TestEmptiedInTheBody(t *testing.T) { // P10.3, P10.7
	for _, name := range []string{"Down", "Up"} {
		k := sample().make(t, 6)
		s := ways(k)[name]
		var got []int
		for n := range s {
			for _, gone := range walk.Fall(k, 2) {
				if code := k.Cut(gone); code != api.OK {
					t.Errorf("P10.7: Cut(%d): %d", gone, code)
				}
			}
			got = append(got, n)
		}
		if !slices.Equal(got, sampleOf(name)) || slices.Collect(s) != nil {
			t.Errorf("P10.3: %s, emptied: %v, then %v", name, got, slices.Collect(s))
		}
	}
}

// TestExampleOfAChange: the chapter's last example.
func TestExampleOfAChange(t *testing.T) { // P10.3
	k := sample().make(t, 6)
	var got []int
	for n := range walk.Down(k, 2) {
		if len(got) == 0 {
			if k.Cut(5) != api.OK || k.Cut(3) != api.OK {
				t.Fatal("P10.3: 5 and 3 can't be cut")
			}
		}
		got = append(got, n)
	}
	if !slices.Equal(got, []int{2, 0, 1, 3, 5}) {
		t.Errorf("P10.3: %v", got)
	}
}

// scribble writes over a list, its spare room too.
func scribble(l []int) {
	for i := range l[:cap(l)] {
		l[:cap(l)][i] = 77
	}
}

func TestNewMemory(t *testing.T) { // P10.6
	p := chance(rand.New(rand.NewSource(12)), 40, 3)
	k := p.make(t, 40)
	before := dump(k, 40)
	for n := range 40 {
		one, two := walk.Fall(k, n), walk.Fall(k, n)
		scribble(one)
		if !slices.Equal(two, p.fall(n)) {
			t.Fatalf("P10.6: two answers of Fall(%d) share memory: %v", n, two)
		}
		scribble(two)
		wantNode(t, k, p, n)
	}
	wantDump(t, k, before)
}

// TestForestsApart: two forests, and two nodes of one, have nothing to do with each other.
func TestForestsApart(t *testing.T) { // P10.1, P10.2
	p := sample().mirror()
	one, two := sample().make(t, 6), p.make(t, 6)
	a, b, c := walk.Down(one, 2), walk.Down(two, 2), walk.Down(one, 0)
	for n := range a {
		if got := slices.Collect(b); !slices.Equal(got, p.down(2)) {
			t.Errorf("P10.1: the other forest, at %d: %v", n, got)
		}
		if got := slices.Collect(c); !slices.Equal(got, sample().down(0)) {
			t.Errorf("P10.1: the other node, at %d: %v", n, got)
		}
	}
	wantAll(t, one, sample(), 6)
	wantAll(t, two, p, 6)
}
