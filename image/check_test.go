package image_test

import (
	"math"
	"slices"
	"testing"

	"sesame/api"
	"sesame/image"
	"sesame/kernel"
)

// check holds Check's answer for the chapter's Config.
func check(t *testing.T, what string, s api.State, draws, want int) {
	t.Helper()
	if got := image.Check(example(), s, draws); got != want {
		t.Errorf("P23.1: %s: %d, want %d", what, got, want)
	}
}

// P23.1: the chapter's examples 1 to 3.
func TestExampleCheck(t *testing.T) {
	s := fresh()
	check(t, "a new kernel", s, 0, 0)
	c := example()
	c.Width = 0
	if got := image.Check(c, s, 0); got != 1 {
		t.Errorf("P23.1: Width 0: %d", got)
	}
	s.Objects = []api.Object{{Id: 0}}
	check(t, "an object of Id 0", s, 0, 2)
	s.Objects = []api.Object{{Id: 1}}
	check(t, "Id 1 and NextId 1", s, 0, 3)
	s.NextId = 2
	check(t, "no token", s, 0, 4)
	root := token(5, 31, -1)
	for _, x := range []struct {
		what string
		list []api.Token
		want int
	}{
		{"a root's rights 15", []api.Token{token(5, 15, -1)}, 5},
		{"a root", []api.Token{root}, 0},
		{"the word again", []api.Token{root, token(5, 1, 0)}, 6},
		{"another word", []api.Token{root, token(6, 1, 0)}, 0},
		{"rights 32", []api.Token{root, token(6, 32, 0)}, 5},
		{"rights 0", []api.Token{root, token(6, 0, 0)}, 5},
		{"Parent 1", []api.Token{root, token(6, 1, 1)}, 5},
		{"Parent -1", []api.Token{root, token(6, 1, -1)}, 5},
		{"a third with Parent 0", []api.Token{root, token(6, 1, 0), token(7, 1, 0)}, 0},
		{"a third with Parent 1", []api.Token{root, token(6, 1, 0), token(7, 1, 1)}, 0},
		{"a fourth with Parent 1", []api.Token{root, token(6, 1, 0), token(7, 1, 0), token(8, 1, 1)}, 5},
	} {
		s.Tokens = x.list
		check(t, x.what, s, 0, x.want)
	}
	s = fresh()
	s.Processes = nil
	check(t, "without processes", s, 0, 0)
	s.Processes = []api.Process{{Number: 1}}
	check(t, "process 1 and NextProc 1", s, 0, 7)
	s = fresh()
	s.Taken = 1
	check(t, "Taken 1 of 0 draws", s, 0, 8)
	check(t, "Taken 1 of 1 draw", s, 1, 0)
}

// fault breaks a rule of tight() and full(), which keep all of them at their bounds.
type fault struct {
	what  string
	rule  int
	spoil func(*api.Config, *api.State)
}

// state gives a fault of a state.
func state(what string, rule int, spoil func(*api.State)) fault {
	return fault{what, rule, func(_ *api.Config, s *api.State) { spoil(s) }}
}

// broken gives faults of rules 1 to 7: each breaks its rule, and none ahead of it.
func broken() []fault {
	return slices.Concat(brokenConfigs(), brokenObjects(), brokenTokens(), brokenKin(), brokenWords(), brokenProcesses())
}

// numbers gives the places of a Config's numbers, in their order.
func numbers(c *api.Config) []*int {
	return []*int{&c.Width, &c.Objects, &c.Pages, &c.Entries, &c.Quota, &c.Procs, &c.List, &c.Sets, &c.Ways, &c.Knob}
}

// bounds: the least and the greatest of a Config's numbers.
func bounds() [][2]int {
	return [][2]int{{1, 128}, {1, 64}, {1, 256}, {1, 256}, {1, 256}, {1, 32}, {1, 32}, {0, 16}, {1, 4}, {0, 64}}
}

func brokenConfigs() []fault {
	var out []fault
	for at, b := range bounds() {
		for _, n := range []int{b[0] - 1, b[1] + 1, -1, math.MinInt, math.MaxInt, 65536 + b[0]} {
			out = append(out, fault{"a number of the Config", 1, func(c *api.Config, _ *api.State) { *numbers(c)[at] = n }})
		}
	}
	return out
}

func brokenObjects() []fault {
	ids := func(l ...int) fault {
		return state("Ids", 2, func(s *api.State) {
			for at, id := range l {
				s.Objects[at].Id = id
			}
		})
	}
	next := func(n int) fault { return state("NextId", 3, func(s *api.State) { s.NextId = n }) }
	return []fault{
		{"an object too many", 2, func(c *api.Config, _ *api.State) { c.Objects = 2 }},
		{"a page too many", 2, func(c *api.Config, _ *api.State) { c.Pages = 66 }},
		state("a page too many", 2, func(s *api.State) { s.Objects[2].Bytes = []byte{0} }),
		state("a page too many", 2, func(s *api.State) { s.Objects[1].Bytes = make([]byte, 193) }),
		{"4097 bytes", 2, func(c *api.Config, s *api.State) { c.Pages, s.Objects[0].Bytes = 256, make([]byte, 4097) }},
		ids(0, 5, 9), ids(-1, 5, 9), ids(math.MinInt, 5, 9), ids(2, 2, 9), ids(5, 2, 9), ids(2, 9, 5), ids(2, 5, 5),
		ids(2, 5, api.MaxId+1), ids(2, 5, math.MaxInt), ids(2, api.MaxId, api.MaxId),
		next(api.MaxId + 2), next(api.MaxId), next(math.MaxInt), next(6), next(1), next(0), next(-1), next(math.MinInt),
		state("NextId 0 without objects", 3, func(s *api.State) { s.Objects, s.Tokens, s.NextId = nil, nil, 0 }),
		state("NextId among the Ids", 3, func(s *api.State) { s.Objects, s.NextId = s.Objects[:2], 3 }),
		state("NextId the last Id", 3, func(s *api.State) { s.Objects, s.NextId = s.Objects[:2], 5 }),
	}
}

func brokenTokens() []fault {
	object := func(at, obj int) fault {
		return state("a token's object", 4, func(s *api.State) { s.Tokens[at].Cap.Obj = obj })
	}
	without := func(i, j int) fault {
		return state("an object without tokens", 4, func(s *api.State) { s.Tokens = slices.Delete(s.Tokens, i, j) })
	}
	return []fault{
		{"a token too many", 4, func(c *api.Config, _ *api.State) { c.Entries = 7 }},
		{"a token too many of an object", 4, func(c *api.Config, _ *api.State) { c.Quota = 5 }},
		object(0, 3), object(0, 5), object(3, 5), object(5, 3), object(6, 2), object(6, api.MaxId), object(7, 5), object(7, 2),
		object(7, 3), object(7, 0), object(7, -1), object(7, math.MinInt), object(7, math.MaxInt),
		without(6, 7), without(7, 8), without(0, 6), without(0, 8),
		state("a token of no object", 4, func(s *api.State) { s.Objects = s.Objects[:2] }),
		state("a token of no object", 4, func(s *api.State) { s.Objects = s.Objects[1:] }),
		state("tokens without objects", 4, func(s *api.State) { s.Objects = nil }),
		state("objects in another order", 4, func(s *api.State) { s.Tokens[6], s.Tokens[7] = s.Tokens[7], s.Tokens[6] }),
		{"an object's tokens in two parts", 4, func(c *api.Config, s *api.State) {
			c.Entries, s.Tokens = 9, append(s.Tokens, api.Token{Cap: of(5, 9), Rights: 1, Parent: 6})
		}},
		state("many tokens", 4, func(s *api.State) { s.Tokens = slices.Repeat(s.Tokens, 1000) }),
	}
}

func brokenKin() []fault {
	var out []fault
	parents := map[int][]int{ // by place: those that its parent may be, with the rights and the tokens behind it as full() has them
		0: {-1}, 1: {0}, 2: {1}, 3: {1, 2}, 4: {0, 1}, 5: {0}, 6: {-1}, 7: {-1},
	}
	for at, may := range parents {
		for _, parent := range []int{math.MinInt, -65536, -2, -1, 0, 1, 2, 3, 4, 5, 6, 7, 8, 9, 255, 256, 65535, math.MaxInt} {
			if !slices.Contains(may, parent) {
				out = append(out, state("a parent", 5, func(s *api.State) { s.Tokens[at].Parent = parent }))
			}
		}
	}
	rights := func(at int, l ...int) {
		for _, r := range l {
			out = append(out, state("rights", 5, func(s *api.State) { s.Tokens[at].Rights = r }))
		}
	}
	odd := []int{0, 32, 33, 63, 255, 256, -1, -31, math.MinInt, math.MaxInt}
	for at := range 8 {
		rights(at, odd...)
	}
	for _, root := range []int{0, 6, 7} {
		for r := range 31 {
			rights(root, r)
		}
	}
	rights(1, 16, 7, 3)      // the root has them; those below have more
	rights(3, 2+8, 8, 6+8)   // its parent has 7
	rights(4, 16, 24, 16+15) // its parent has 15
	return out
}

func brokenWords() []fault {
	word := func(at int, w api.Word) fault {
		return state("a word", 6, func(s *api.State) { s.Tokens[at].Cap.Pass = w })
	}
	return []fault{
		word(0, api.Word{Lo: 256}), word(7, api.Word{Lo: 256}), word(3, api.Word{Hi: 1}), word(6, api.Word{Hi: math.MaxUint64, Lo: 1}),
		word(0, api.Word{Lo: 255}), word(5, api.Word{Lo: 1}), word(4, api.Word{Lo: 3}), word(1, api.Word{}),
		{"a narrower width", 6, func(c *api.Config, _ *api.State) { c.Width = 7 }},
	}
}

func brokenProcesses() []fault {
	process := func(spoil func(*api.State)) fault { return state("processes", 7, spoil) }
	numbered := func(l ...int) fault {
		return process(func(s *api.State) {
			for at, n := range l {
				s.Processes[at].Number = n
			}
		})
	}
	next := func(n int) fault { return process(func(s *api.State) { s.NextProc = n }) }
	out := []fault{
		{"a process too many", 7, func(c *api.Config, _ *api.State) { c.Procs = 2 }},
		{"a list too long", 7, func(c *api.Config, _ *api.State) { c.List = 1 }},
		numbered(-1, 4, 9), numbered(math.MinInt, 4, 9), numbered(0, 0, 9), numbered(4, 0, 9), numbered(0, 9, 4), numbered(0, 9, 9),
		numbered(0, 4, 65536), numbered(0, 4, math.MaxInt), numbered(0, 65535, 65535), numbered(0, 4, -9),
		next(65537), next(65535), next(5), next(0), next(-1), next(math.MinInt), next(math.MaxInt), next(65536 + 65536),
		process(func(s *api.State) { s.Processes, s.NextProc = s.Processes[:2], 4 }),
		process(func(s *api.State) { s.Processes, s.NextProc = s.Processes[:1], 0 }),
		process(func(s *api.State) { s.Processes, s.NextProc = nil, 0 }),
		process(func(s *api.State) { s.Processes, s.NextProc = nil, 65537 }),
	}
	for at := range 3 {
		for _, x := range []api.Cap{of(-1, 0), of(math.MinInt, 0), of(api.MaxId+1, 0), of(math.MaxInt, 0), of(0, 256), {Pass: api.Word{Hi: 1}}} {
			out = append(out,
				process(func(s *api.State) { s.Processes[at].List = []api.Cap{x} }),
				process(func(s *api.State) { s.Processes[at].List = []api.Cap{of(1, 1), x} }))
		}
		out = append(out, process(func(s *api.State) { s.Processes[at].List = make([]api.Cap, 3) }))
	}
	return out
}

// P23.1: each rule broken, by each of its clauses, at its edges.
func TestBroken(t *testing.T) {
	if got := image.Check(tight(), full(), api.MaxDraws); got != 0 {
		t.Fatalf("P23.1: at the bounds: %d", got)
	}
	for at, x := range broken() {
		c, s := tight(), full()
		x.spoil(&c, &s)
		if got := image.Check(c, s, api.MaxDraws); got != x.rule {
			t.Errorf("P23.1: fault %d, %s: %d, want %d: %+v, %+v", at, x.what, got, x.rule, c, s.Tokens)
		}
		if got := plainCheck(c, s, api.MaxDraws); got != x.rule {
			t.Errorf("fault %d, %s: the rules read plainly: %d, want %d", at, x.what, got, x.rule)
		}
	}
}

// P23.1: what is just within the bounds is taken.
func TestKept(t *testing.T) {
	for what, change := range map[string]func(*api.Config, *api.State){
		"no object":             func(_ *api.Config, s *api.State) { s.Objects, s.Tokens = nil, nil },
		"no object, NextId 1":   func(_ *api.Config, s *api.State) { s.Objects, s.Tokens, s.NextId = nil, nil, 1 },
		"no process":            func(_ *api.Config, s *api.State) { s.Processes = nil },
		"no process, 1 is next": func(_ *api.Config, s *api.State) { s.Processes, s.NextProc = nil, 1 },
		"process 0, 1 is next":  func(_ *api.Config, s *api.State) { s.Processes, s.NextProc = s.Processes[:1], 1 },
		"process 4, 5 is next":  func(_ *api.Config, s *api.State) { s.Processes, s.NextProc = s.Processes[1:2], 5 },
		"Ids 1, 2, 3":           func(_ *api.Config, s *api.State) { renamed(s, 1, 2, 3) },
		"Ids 1, 2, 3, NextId 4": func(_ *api.Config, s *api.State) { renamed(s, 1, 2, 3); s.NextId = 4 },
		"the greatest Ids":      func(_ *api.Config, s *api.State) { renamed(s, api.MaxId-2, api.MaxId-1, api.MaxId) },
		"the last numbers":      func(_ *api.Config, s *api.State) { s.Processes[0].Number, s.Processes[1].Number = 65533, 65534 },
		"64 bytes for 1":        func(_ *api.Config, s *api.State) { s.Objects[1].Bytes = make([]byte, 192) },
		"a page elsewhere": func(_ *api.Config, s *api.State) {
			s.Objects[1].Bytes, s.Objects[2].Bytes = make([]byte, 128), make([]byte, 64)
		},
		"one word in two objects": func(_ *api.Config, s *api.State) {
			s.Tokens[6].Cap.Pass, s.Tokens[7].Cap.Pass = s.Tokens[1].Cap.Pass, s.Tokens[1].Cap.Pass
		},
		"no cache":           func(c *api.Config, _ *api.State) { c.Sets, c.Ways, c.Knob = 0, 1, 0 },
		"nothing but room":   func(c *api.Config, s *api.State) { *s = fresh() },
		"all rights below":   func(_ *api.Config, s *api.State) { s.Tokens[1].Rights, s.Tokens[2].Rights = 31, 31 },
		"lists of the least": func(_ *api.Config, s *api.State) { s.Processes[2].List = make([]api.Cap, 2) },
	} {
		c, s := tight(), full()
		change(&c, &s)
		if got := image.Check(c, s, api.MaxDraws); got != 0 {
			t.Errorf("P23.1: %s: %d", what, got)
			continue
		}
		roundTrip(t, c, s)
	}
	for at, b := range bounds() {
		for _, n := range b {
			c := example()
			*numbers(&c)[at] = n
			if got := image.Check(c, fresh(), 0); got != 0 {
				t.Errorf("P23.1: number %d of the Config, %d: %d", at, n, got)
			}
			roundTrip(t, c, fresh())
		}
	}
}

// renamed gives the objects of full() other numbers, and their tokens too.
func renamed(s *api.State, ids ...int) {
	for at := range s.Tokens {
		for place, o := range s.Objects {
			if s.Tokens[at].Cap.Obj == o.Id {
				s.Tokens[at].Cap.Obj = ids[place]
				break
			}
		}
	}
	for place := range s.Objects {
		s.Objects[place].Id = ids[place]
	}
}

// P23.1: rule 5, by all parents that five tokens of one object, or of two, can tell of: those are taken that a kernel takes.
func TestAllKin(t *testing.T) {
	c := example()
	c.Quota = 8
	taken := 0
	for n := range 7 * 7 * 7 * 7 * 7 * 2 {
		s := fresh()
		s.Objects, s.NextId = []api.Object{{Id: 1}}, 3
		rest := n / 2
		for word := range uint64(5) {
			s.Tokens = append(s.Tokens, token(word, 31, rest%7-1))
			rest /= 7
		}
		if n%2 == 1 {
			s.Objects = append(s.Objects, api.Object{Id: 2})
			s.Tokens[3].Cap.Obj, s.Tokens[4].Cap.Obj = 2, 2
		}
		want := plainCheck(c, s, 0)
		_, code := kernel.Load(c, nil, s)
		if got := image.Check(c, s, 0); got != want || (code == api.OK) != (got == 0) || got != 0 && got != 5 {
			t.Fatalf("P23.1: %d, want %d, a kernel answers %d: %+v", got, want, code, s.Tokens)
		}
		if want == 0 {
			taken++
		}
	}
	if taken != 14+2 { // the trees of five tokens in Down's order; those of three and of two
		t.Errorf("P23.1: %d were taken", taken)
	}
}

// P23.1: rule 5, by all rights of a parent and a child.
func TestAllRights(t *testing.T) {
	for parent := range 34 {
		for child := range 34 {
			s := fresh()
			s.Objects, s.NextId = []api.Object{{Id: 1}}, 2
			s.Tokens = []api.Token{token(5, 31, -1), token(6, parent, 0), token(7, child, 1)}
			want := 5
			if parent >= 1 && parent <= 31 && child >= 1 && parent|child == parent {
				want = 0
			}
			check(t, "rights", s, 0, want)
		}
	}
}

// P23.1: rule 8, against any number of draws.
func TestTaken(t *testing.T) {
	for _, taken := range []int{math.MinInt, -1, 0, 1, 2, 4095, 4096, 4097, 65536, math.MaxInt} {
		for _, draws := range []int{math.MinInt, -1, 0, 1, 2, 4095, 4096, 4097, 65536, math.MaxInt} {
			s := fresh()
			s.Taken = taken
			want := 8
			if taken >= 0 && taken <= draws {
				want = 0
			}
			check(t, "Taken", s, draws, want)
		}
	}
}

// P23.1: of two rules that are broken the first is told.
func TestFirstIsTold(t *testing.T) {
	all := broken()
	for at, x := range all {
		for step := range 9 {
			y := all[(at*7+step*len(all)/9)%len(all)]
			c, s := tight(), full()
			y.spoil(&c, &s)
			if !spoils(x, &c, &s) {
				continue
			}
			want := plainCheck(c, s, -1)
			if got := image.Check(c, s, -1); got != want || got == 0 {
				t.Errorf("P23.1: %s and %s: %d, want %d", x.what, y.what, got, want)
			}
		}
	}
	c, s := tight(), full()
	for rule := 8; rule > 0; rule-- {
		s.Taken = -1
		for _, x := range all {
			if x.rule == rule {
				spoils(x, &c, &s)
				break
			}
		}
		if got := image.Check(c, s, 0); got != rule {
			t.Errorf("P23.1: rules %d to 8 are broken: %d", rule, got)
		}
	}
}

// spoils breaks a rule of what is broken already; it is false, if that has not the parts for it.
func spoils(x fault, c *api.Config, s *api.State) (done bool) {
	defer func() { done = recover() == nil }()
	x.spoil(c, s)
	return
}
