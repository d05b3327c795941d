package kernel_test

import (
	"bytes"
	"math"
	"slices"
	"testing"

	"sesame/api"
	"sesame/kernel"
)

// tight: a Config whose bounds full meets, each of them.
func tight() api.Config {
	return api.Config{Width: 8, Objects: 3, Pages: 3, Entries: 7, Quota: 5, Procs: 3, List: 2, Sets: 1, Ways: 1, Knob: 64}
}

// full: a state that has as much of everything as tight allows.
func full() api.State {
	return api.State{
		Objects: []api.Object{{Id: 2, Bytes: make([]byte, 65)}, {Id: 5, Bytes: []byte{1}}, {Id: 9}},
		Tokens: []api.Token{
			{Cap: of(2, 1), Rights: 31, Parent: -1},
			{Cap: of(2, 2), Rights: 15, Parent: 0},
			{Cap: of(2, 3), Rights: 5, Parent: 1},
			{Cap: of(2, 4), Rights: 3, Parent: 1},
			{Cap: of(2, 255), Rights: 30, Parent: 0},
			{Cap: of(5, 1), Rights: 31, Parent: -1},
			{Cap: of(9, 0), Rights: 31, Parent: -1},
		},
		Processes: []api.Process{{Number: 0}, {Number: 4, List: []api.Cap{of(0, 255), of(1<<62, 0)}}, {Number: 65535, List: []api.Cap{of(2, 1)}}},
		NextId:    10,
		NextProc:  65536,
		Taken:     3,
	}
}

// loads loads a state, that is another's with one turn.
func loads(t *testing.T, c api.Config, turn func(*api.State), want api.Errno, what string) {
	t.Helper()
	s := full()
	turn(&s)
	before := cloned(s)
	k, code := kernel.Load(c, words(7, 8, 9), s)
	if code != want || (k != nil) != (want == api.OK) {
		t.Errorf("P21.5: %s: %d, want %d", what, code, want)
		return
	}
	if !sameState(s, before) {
		t.Errorf("P21.7: %s: Load has changed the state", what)
	}
	if k != nil && (!sameState(k.State(), s) || k.Config() != c) {
		t.Errorf("P21.5: %s: %+v, want %+v", what, k.State(), s)
	}
}

// P21.5: a state that meets each bound, and Configs one less in one number each.
func TestLoadBounds(t *testing.T) {
	loads(t, tight(), func(*api.State) {}, api.OK, "all bounds met")
	for _, f := range fields()[:7] {
		c := tight()
		*f.at(&c)--
		loads(t, c, func(*api.State) {}, api.ErrImage, f.name+" one less")
	}
	for _, f := range fields() {
		c := tight()
		*f.at(&c) = f.most
		loads(t, c, func(*api.State) {}, api.OK, f.name+" as many as may be")
	}
}

// P21.5, rule 1.
func TestLoadObjects(t *testing.T) {
	roomier := tight()
	roomier.Objects, roomier.Pages, roomier.Entries, roomier.Quota = 64, 256, 256, 256
	ids := func(first, second int) func(*api.State) {
		return func(s *api.State) {
			s.Objects[0].Id, s.Objects[1].Id = first, second
			for at := range s.Tokens[:5] {
				s.Tokens[at].Cap.Obj = first
			}
			s.Tokens[5].Cap.Obj = second
		}
	}
	loads(t, roomier, ids(1, 8), api.OK, "other Ids")
	for _, pair := range [][2]int{{0, 5}, {-1, 5}, {math.MinInt, 5}, {5, 5}, {6, 5}, {5, 9}, {5, 10}, {5, 1 << 62}, {5, math.MaxInt}} {
		loads(t, roomier, ids(pair[0], pair[1]), api.ErrImage, "Ids that don't rise from 1")
	}
	for _, o := range []api.Object{{Id: 0}, {Id: -1}, {Id: 9}, {Id: 3}, {Id: 1<<62 + 1}, {Id: 10, Bytes: make([]byte, 4097)}} {
		// without a token of its own it would be seen by nothing else
		loads(t, roomier, func(s *api.State) { s.Objects, s.NextId = append(s.Objects, o), 1<<62+1 }, api.ErrImage, "a wrong object behind the others")
		loads(t, roomier, func(s *api.State) { s.Objects, s.Tokens = []api.Object{o}, nil }, api.ErrImage, "a wrong object alone")
	}
	last := func(id, next int) func(*api.State) {
		return func(s *api.State) { s.Objects[2].Id, s.Tokens[6].Cap.Obj, s.NextId = id, id, next }
	}
	loads(t, roomier, last(1<<62, 1<<62+1), api.OK, "the last Id")
	loads(t, roomier, last(1<<62, 1<<62), api.ErrImage, "the last Id twice")
	loads(t, roomier, last(1<<62+1, 1<<62+2), api.ErrImage, "an Id behind the last")
	loads(t, roomier, last(1<<62+1, 1<<62+1), api.ErrImage, "an Id behind the last")
	loads(t, roomier, last(math.MaxInt, math.MaxInt), api.ErrImage, "the greatest number")
	for next, want := range map[int]api.Errno{10: api.OK, 11: api.OK, 1 << 62: api.OK, 1<<62 + 1: api.OK, 1<<62 + 2: api.ErrImage, math.MaxInt: api.ErrImage, 9: api.ErrImage, 3: api.ErrImage, 1: api.ErrImage, 0: api.ErrImage, -1: api.ErrImage, math.MinInt: api.ErrImage} {
		loads(t, roomier, func(s *api.State) { s.NextId = next }, want, "NextId")
		if next >= 1 {
			want = api.OK
		}
		if next > 1<<62+1 {
			want = api.ErrImage
		}
		loads(t, roomier, func(s *api.State) { s.Objects, s.Tokens, s.NextId = nil, nil, next }, want, "NextId without objects")
	}
	for size, want := range map[int]api.Errno{0: api.OK, 64: api.OK, 1024: api.OK, 1025: api.OK, 2048: api.OK, 4095: api.OK, 4096: api.OK, 4097: api.ErrImage, 1 << 20: api.ErrImage} {
		loads(t, roomier, func(s *api.State) { s.Objects[1].Bytes = pattern(size) }, want, "a size")
	}
	for size, want := range map[int]api.Errno{0: api.OK, 1: api.OK, 64: api.OK, 65: api.ErrImage} {
		loads(t, tight(), func(s *api.State) { s.Objects[1].Bytes = pattern(size) }, want, "pages together")
		loads(t, tight(), func(s *api.State) { s.Objects[2].Bytes = pattern(size) }, map[bool]api.Errno{true: api.OK, false: api.ErrImage}[size == 0], "pages together")
	}
}

// pattern gives bytes, no two neighbours alike.
func pattern(size int) []byte {
	out := make([]byte, size)
	for at := range out {
		out[at] = byte(at%251 + 1)
	}
	return out
}

// P21.5, rule 2.
func TestLoadTokens(t *testing.T) {
	c := tight()
	c.Entries, c.Quota = 20, 20
	put := func(at int, token api.Token) func(*api.State) {
		return func(s *api.State) { s.Tokens = slices.Insert(s.Tokens, at, token) }
	}
	swap := func(a, b int) func(*api.State) {
		return func(s *api.State) { s.Tokens[a], s.Tokens[b] = s.Tokens[b], s.Tokens[a] }
	}
	set := func(at int, turn func(*api.Token)) func(*api.State) {
		return func(s *api.State) { turn(&s.Tokens[at]) }
	}
	for parent, want := range map[int]api.Errno{-1: api.ErrImage, 0: api.OK, 1: api.OK, 2: api.ErrImage, 3: api.OK, 4: api.ErrImage, 5: api.ErrImage, 6: api.ErrImage, -2: api.ErrImage, math.MinInt: api.ErrImage, math.MaxInt: api.ErrImage, 7: api.ErrImage, 8: api.ErrImage} {
		// 3 comes just ahead of 4: it, its parent 1 and 0 may be the parent of 4
		loads(t, c, set(4, func(token *api.Token) { token.Parent, token.Rights = parent, 2 }), want, "a parent")
	}
	for rights, want := range map[int]api.Errno{1: api.OK, 5: api.OK, 15: api.OK, 16: api.ErrImage, 31: api.ErrImage, 0: api.ErrImage, 32: api.ErrImage, 33: api.ErrImage, -1: api.ErrImage, math.MinInt: api.ErrImage, math.MaxInt: api.ErrImage} {
		loads(t, c, set(3, func(token *api.Token) { token.Rights = rights }), want, "rights below 15")
	}
	for rights := range 34 {
		want := api.ErrImage
		if rights == 31 {
			want = api.OK
		}
		loads(t, c, set(6, func(token *api.Token) { token.Rights = rights }), want, "a root's rights")
	}
	loads(t, c, set(5, func(token *api.Token) { token.Rights = 30 }), api.ErrImage, "a root's rights")
	loads(t, c, set(0, func(token *api.Token) { token.Rights = 63 }), api.ErrImage, "a root's rights")
	for word, want := range map[api.Word]api.Errno{{Lo: 254}: api.OK, {Lo: 255}: api.ErrImage, {Lo: 256}: api.ErrImage, {Hi: 1}: api.ErrImage, {Lo: 1}: api.ErrImage, {Lo: 3}: api.ErrImage, {Lo: 2}: api.OK, {Lo: 0}: api.OK} {
		loads(t, c, set(1, func(token *api.Token) { token.Cap.Pass = word }), want, "a word")
	}
	for obj, want := range map[int]api.Errno{9: api.OK, 2: api.ErrImage, 5: api.ErrImage, 8: api.ErrImage, 10: api.ErrImage, 0: api.ErrImage, -1: api.ErrImage, math.MinInt: api.ErrImage} {
		loads(t, c, set(6, func(token *api.Token) { token.Cap.Obj = obj }), want, "a root's object")
		loads(t, c, func(s *api.State) { put(7, api.Token{Cap: of(obj, 77), Rights: 1, Parent: 6})(s) }, want, "a child's object")
	}
	loads(t, c, put(7, api.Token{Cap: of(9, 77), Rights: 31, Parent: -1}), api.ErrImage, "a second root")
	loads(t, c, put(7, api.Token{Cap: of(10, 77), Rights: 31, Parent: -1}), api.ErrImage, "a root of no object")
	loads(t, c, put(0, api.Token{Cap: of(1, 77), Rights: 31, Parent: -1}), api.ErrImage, "a root of no object, ahead of all")
	loads(t, c, put(7, api.Token{Cap: of(5, 77), Rights: 1, Parent: 5}), api.ErrImage, "a child behind another object's tokens")
	loads(t, c, swap(5, 6), api.ErrImage, "objects in another order")
	loads(t, c, swap(1, 4), api.ErrImage, "children in another order")
	loads(t, c, swap(0, 1), api.ErrImage, "a child ahead of its parent")
	loads(t, c, func(s *api.State) {
		s.Tokens[2], s.Tokens[3], s.Tokens[4] = s.Tokens[4], s.Tokens[2], s.Tokens[3]
	}, api.ErrImage, "each generation by itself")
	loads(t, c, swap(2, 3), api.OK, "brothers in another order")
	loads(t, c, func(s *api.State) { s.Tokens = s.Tokens[:6] }, api.ErrImage, "the last object without a token")
	loads(t, c, func(s *api.State) { s.Tokens = slices.Delete(s.Tokens, 5, 6) }, api.ErrImage, "an object without a token")
	loads(t, c, func(s *api.State) { s.Tokens = nil }, api.ErrImage, "no token")
	loads(t, c, func(s *api.State) { s.Objects = s.Objects[:2] }, api.ErrImage, "a token's object is not there")
	loads(t, c, func(s *api.State) { s.Objects, s.Tokens = nil, nil }, api.OK, "nothing")
	loads(t, c, func(s *api.State) { s.Tokens = slices.Repeat(s.Tokens, 1000) }, api.ErrImage, "many tokens")
	loads(t, c, func(s *api.State) { s.Tokens[5].Parent = 4 }, api.ErrImage, "a root that has a parent of another object")
}

// P21.5, rule 2: how many of an object, and how many together.
func TestLoadCounts(t *testing.T) {
	for many := range 12 {
		s := api.State{Objects: []api.Object{{Id: 1}}, NextId: 2, NextProc: 1}
		for n := range many {
			s.Tokens = append(s.Tokens, api.Token{Cap: of(1, uint64(n)), Rights: 31, Parent: n - 1})
		}
		for quota := 1; quota <= 12; quota++ {
			for entries := 1; entries <= 12; entries++ {
				c := tight()
				c.Quota, c.Entries = quota, entries
				want := api.OK
				if many == 0 || many > quota || many > entries {
					want = api.ErrImage
				}
				if _, code := kernel.Load(c, nil, s); code != want {
					t.Errorf("P21.5: %d tokens, quota %d, entries %d: %d, want %d", many, quota, entries, code, want)
				}
			}
		}
	}
}

// P21.5, rule 3.
func TestLoadProcesses(t *testing.T) {
	c := tight()
	numbers := func(l ...int) func(*api.State) {
		return func(s *api.State) {
			for at, n := range l {
				s.Processes[at].Number = n
			}
		}
	}
	for _, l := range [][]int{{0, 1, 2}, {1, 2, 3}, {65533, 65534, 65535}} {
		loads(t, c, numbers(l...), api.OK, "numbers that rise")
	}
	for _, l := range [][]int{{-1, 0, 1}, {0, 0, 1}, {1, 0, 2}, {0, 2, 1}, {0, 1, 65536}, {math.MinInt, 0, 1}, {0, 1, math.MaxInt}, {4, 4, 4}} {
		loads(t, c, numbers(l...), api.ErrImage, "numbers that don't rise from 0")
	}
	for next, want := range map[int]api.Errno{65536: api.OK, 65537: api.ErrImage, 65535: api.ErrImage, 5: api.ErrImage, 0: api.ErrImage, -1: api.ErrImage, math.MinInt: api.ErrImage, math.MaxInt: api.ErrImage} {
		loads(t, c, func(s *api.State) { s.NextProc = next }, want, "NextProc")
	}
	for next, want := range map[int]api.Errno{4: api.ErrImage, 5: api.OK, 65536: api.OK, 65537: api.ErrImage} {
		loads(t, c, func(s *api.State) { s.Processes, s.NextProc = s.Processes[:2], next }, want, "NextProc behind 4")
	}
	for next, want := range map[int]api.Errno{1: api.OK, 0: api.ErrImage, -1: api.ErrImage, 65536: api.OK, 65537: api.ErrImage} {
		loads(t, c, func(s *api.State) { s.Processes, s.NextProc = nil, next }, want, "NextProc without processes")
		loads(t, c, func(s *api.State) { s.Processes, s.NextProc = s.Processes[:1], next }, want, "NextProc behind 0")
	}
	loads(t, c, func(s *api.State) {
		s.Processes = append(s.Processes[:1], api.Process{Number: 1}, api.Process{Number: 2}, api.Process{Number: 3})
	}, api.ErrImage, "a process too many")
	for at := range 3 {
		for _, x := range []api.Cap{of(-1, 0), of(math.MinInt, 0), of(1<<62+1, 0), of(math.MaxInt, 0), of(0, 256), {Pass: api.Word{Hi: 1}}} {
			loads(t, c, func(s *api.State) { s.Processes[at].List = []api.Cap{of(1, 1), x} }, api.ErrImage, "a capability that can't be in a list")
			loads(t, c, func(s *api.State) { s.Processes[at].List = []api.Cap{x} }, api.ErrImage, "a capability that can't be in a list")
		}
		loads(t, c, func(s *api.State) { s.Processes[at].List = []api.Cap{of(1<<62, 255), of(0, 0)} }, api.OK, "any capabilities")
		loads(t, c, func(s *api.State) { s.Processes[at].List = make([]api.Cap, 3) }, api.ErrImage, "a list too long")
	}
}

// P21.5, rule 4.
func TestLoadTaken(t *testing.T) {
	for taken, want := range map[int]api.Errno{0: api.OK, 1: api.OK, 3: api.OK, 4: api.ErrImage, -1: api.ErrImage, math.MinInt: api.ErrImage, math.MaxInt: api.ErrImage} {
		loads(t, tight(), func(s *api.State) { s.Taken = taken }, want, "Taken")
	}
}

// P21.6: what is loaded goes on with that state: its bytes, rights, kin, lists, numbers and draws.
func TestLoadGoesOn(t *testing.T) {
	c := tight()
	c.Procs, c.Entries, c.Quota, c.Pages = 5, 20, 20, 80
	s := full()
	s.Objects[0].Bytes = pattern(4096)
	s.NextProc, s.Processes[2].Number, s.Taken = 71, 70, 1
	w := loaded(t, c, words(7, 8, 9), s)
	w.wants(read(of(2, 3), 3000, 1024), api.Reply{Data: pattern(4096)[3000:4024]})
	w.code(write(of(2, 3), 0, 1), api.ErrRights)
	w.wants(by(70, named(2, 0, 2)), api.Reply{Data: []byte{1, 2}})
	w.wants(spawn(), api.Reply{Number: 71})
	w.wants(derive(of(2, 2), 1), api.Reply{Cap: of(2, 8)})
	w.code(revoke(of(2, 2)), api.OK)
	if got := w.kernels[0].State().Tokens; len(got) != 4 {
		t.Errorf("P21.6: behind a revoke: %v", got)
	}
	w.code(read(of(2, 8), 0, 1), api.ErrCap)
	w.code(destroy(of(9, 0)), api.OK)
	w.wants(create(0), api.Reply{Cap: of(10, 9)})
	w.code(destroy(of(2, 255)), api.OK)
	w.code(create(0), api.ErrDraws)
}

// P21.1, P21.7: neither the draws nor a state's lists are kept.
func TestKeepsNothing(t *testing.T) {
	list := words(5, 6, 7)
	k, _ := kernel.New(roomy(), list)
	s := full()
	s.Taken = 1
	l, _ := kernel.Load(roomy(), list, s)
	clear(list)
	if got := k.Do(create(4)); got.Cap != of(1, 5) {
		t.Errorf("P21.7: New has kept the draws: %v", got)
	}
	if got := l.Do(create(4)); got.Cap != of(10, 6) {
		t.Errorf("P21.7: Load has kept the draws: %v", got)
	}
	s.Processes[1].List = append(make([]api.Cap, 0, 9), s.Processes[1].List...)
	l, _ = kernel.Load(tight(), words(5, 6, 7), s)
	before := l.State()
	for _, o := range s.Objects {
		for at := range o.Bytes {
			o.Bytes[at] = 99
		}
	}
	clear(s.Tokens)
	clear(s.Processes[1].List[:9])
	clear(s.Objects)
	clear(s.Processes)
	if !sameState(l.State(), before) {
		t.Errorf("P21.7: the state was kept: %+v", l.State())
	}
	for at, c := range []api.Call{write(of(1, 5), 0, 1, 2, 3), add(of(1, 5)), spawn(0)} {
		data, gifts := bytes.Clone(c.Data), slices.Clone(c.Gifts)
		c.Data, c.Gifts = append(make([]byte, 0, 9), c.Data...), append(make([]int, 0, 9), c.Gifts...)
		if got := k.Do(c); got.Code != api.OK {
			t.Fatalf("P21.2: call %d: %d", at, got.Code)
		}
		if !bytes.Equal(c.Data, data) || !slices.Equal(c.Gifts, gifts) || !bytes.Equal(c.Data[len(data):9], make([]byte, 9-len(data))) || !slices.Equal(c.Gifts[len(gifts):9], make([]int, 9-len(gifts))) {
			t.Errorf("P21.7: call %d was changed: %+v", at, c)
		}
		before := k.State()
		for at := range c.Data[:9] {
			c.Data[:9][at] = 99
		}
		for at := range c.Gifts[:9] {
			c.Gifts[:9][at] = 99
		}
		if !sameState(k.State(), before) {
			t.Errorf("P21.7: call %d was kept: %+v", at, k.State())
		}
	}
}

// P21.3, P21.7: a record's bytes are not changed and not kept.
func TestKeepsNoRecord(t *testing.T) {
	k, _ := kernel.New(roomy(), words(5))
	k.Do(create(4))
	b := append(make([]byte, 0, 64), 6, 0, 0, 1, 0, 0, 0, 0, 0, 0, 0, 1, 5, 0, 0, 0, 0, 0, 0, 0, 0, 0, 0, 0, 0, 0, 0, 0, 0, 0, 0, 0, 7, 8)
	kept := bytes.Clone(b[:64])
	if out := k.Record(b); !bytes.Equal(out, []byte{0, 0}) || !bytes.Equal(b[:64], kept) {
		t.Errorf("P21.7: %x; the record %x", out, b[:64])
	}
	for at := range b[:64] {
		b[:64][at] = 99
	}
	if got := k.Do(read(of(1, 5), 0, 4)); !bytes.Equal(got.Data, []byte{7, 8, 0, 0}) {
		t.Errorf("P21.7: the record was kept: %v", got)
	}
}

// spoil writes over all that a state holds, its lists' spare room too.
func spoil(s api.State) {
	for _, o := range s.Objects[:cap(s.Objects)] {
		for at := range o.Bytes[:cap(o.Bytes)] {
			o.Bytes[:cap(o.Bytes)][at] = 99
		}
	}
	for _, p := range s.Processes[:cap(s.Processes)] {
		for at := range p.List[:cap(p.List)] {
			p.List[:cap(p.List)][at] = of(99, 99)
		}
	}
	for at := range s.Tokens[:cap(s.Tokens)] {
		s.Tokens[:cap(s.Tokens)][at] = api.Token{Cap: of(99, 99), Rights: 99, Parent: 99}
	}
	for at := range s.Objects[:cap(s.Objects)] {
		s.Objects[:cap(s.Objects)][at] = api.Object{Id: 99}
	}
	for at := range s.Processes[:cap(s.Processes)] {
		s.Processes[:cap(s.Processes)][at] = api.Process{Number: 99}
	}
}

// P21.7: what is answered is new memory: a state, a read's bytes, a record's; no two lists of one state share any.
func TestAnswersNewMemory(t *testing.T) {
	c := tight()
	c.Pages = 80
	s := full()
	s.Objects[0].Bytes, s.Objects[1].Bytes = pattern(2000), pattern(64)
	s.Processes[0].List = []api.Cap{of(2, 1), of(5, 1)}
	k, code := kernel.Load(c, words(5, 6, 7), s)
	if code != api.OK {
		t.Fatalf("P21.5: Load: %d", code)
	}
	other := k.State()
	spoil(k.State())
	if !sameState(k.State(), s) || !sameState(other, s) {
		t.Errorf("P21.7: a state is shared: %+v", k.State())
	}
	got := k.Do(read(of(2, 1), 10, 100))
	again := k.Do(read(of(2, 1), 10, 100))
	for at := range got.Data[:cap(got.Data)] {
		got.Data[:cap(got.Data)][at] = 99
	}
	if !bytes.Equal(again.Data, pattern(2000)[10:110]) || !sameState(k.State(), s) {
		t.Errorf("P21.7: a read's bytes are shared")
	}
	b := []byte{5, 0, 0, 2, 0, 0, 0, 0, 0, 0, 0, 1, 1, 0, 0, 0, 0, 0, 0, 0, 0, 0, 0, 0, 0, 0, 0, 0, 10, 0, 0, 0, 100, 0, 0, 0}
	out := k.Record(b)
	want := append([]byte{0, 0}, pattern(2000)[10:110]...)
	if !bytes.Equal(out, want) {
		t.Fatalf("P21.3: %x, want %x", out, want)
	}
	for at := range out[:cap(out)] {
		out[:cap(out)][at] = 99
	}
	if !sameState(k.State(), s) || !bytes.Equal(k.Record(b), want) {
		t.Errorf("P21.7: a record's bytes are shared")
	}
	// one list written over at a time, the others of the same state stay
	for at := range s.Objects {
		told := k.State()
		data := told.Objects[at].Bytes
		for n := range data[:cap(data)] {
			data[:cap(data)][n] = 99
		}
		told.Objects[at].Bytes = s.Objects[at].Bytes
		if !sameState(told, s) {
			t.Errorf("P21.7: the bytes of object %d are shared within a state", at)
		}
	}
	for at := range s.Processes {
		told := k.State()
		list := told.Processes[at].List
		for n := range list[:cap(list)] {
			list[:cap(list)][n] = of(99, 99)
		}
		told.Processes[at].List = s.Processes[at].List
		if !sameState(told, s) {
			t.Errorf("P21.7: the list of process %d is shared within a state", at)
		}
	}
}

// P21.2, P21.7: two kernels have nothing in common, a spawned list is its own.
func TestApart(t *testing.T) {
	list := words(5, 6, 7)
	a, _ := kernel.New(roomy(), list)
	b, _ := kernel.New(roomy(), list)
	before := b.State()
	for _, c := range []api.Call{create(70), derive(of(1, 5), 31), add(of(1, 5)), add(of(1, 6)), spawn(1, 0), write(of(1, 6), 3, 4), remove(0), revoke(of(1, 6)), exit(0)} {
		if got := a.Do(c); got.Code != api.OK {
			t.Fatalf("P21.2: %+v: %d", c, got.Code)
		}
	}
	if !sameState(b.State(), before) {
		t.Errorf("P21.7: two kernels share: %+v", b.State())
	}
	if got := a.State().Processes; len(got) != 1 || !slices.Equal(got[0].List, []api.Cap{of(1, 6), of(1, 5)}) {
		t.Errorf("P21.2: the spawned list: %+v", got)
	}
}
