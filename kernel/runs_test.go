package kernel_test

import (
	"bytes"
	"math"
	"math/rand"
	"slices"
	"testing"

	"sesame/api"
	"sesame/kernel"
	"sesame/record"
)

// P21.2: lists, gifts and processes, each error where those behind it apply too.
func TestProcesses(t *testing.T) {
	c := small()
	c.Procs = 3
	w := made(t, c, nil)
	w.code(spawn(0), api.ErrIndex)
	w.code(add(of(1, 256)), api.ErrWidth)
	w.code(add(of(1<<62, 255)), api.OK)
	w.code(add(of(1<<62+1, 255)), api.ErrRecord)
	w.code(add(of(0, 0)), api.OK)
	w.code(add(of(1, 256)), api.ErrWidth) // the list is full too
	w.code(add(of(1, 255)), api.ErrList)
	w.code(spawn(0, 1, 2), api.ErrIndex) // too many too
	w.code(spawn(0, 1, 1), api.ErrList)
	w.code(spawn(65535), api.ErrIndex)
	w.code(spawn(65536), api.ErrRecord)
	w.wants(spawn(1, 0), api.Reply{Number: 1})
	w.wants(by(1, spawn(0)), api.Reply{Number: 2})
	w.code(spawn(0, 1, 1), api.ErrList) // no process more either
	w.code(spawn(), api.ErrProcs)
	w.code(by(2, remove(1)), api.ErrIndex)
	w.code(by(2, remove(0)), api.OK)
	w.code(by(2, remove(0)), api.ErrIndex)
	w.code(remove(0), api.OK)
	w.code(remove(65536), api.ErrRecord)
	w.code(exit(1), api.OK)
	w.code(exit(1), api.ErrCaller)
	w.wants(spawn(0), api.Reply{Number: 3})
	want := []api.Process{{Number: 0, List: []api.Cap{of(0, 0)}}, {Number: 2}, {Number: 3, List: []api.Cap{of(0, 0)}}}
	if s := w.kernels[0].State(); !sameState(s, api.State{Processes: want, NextId: 1, NextProc: 4}) {
		t.Errorf("P21.4: %+v", s)
	}
	for _, number := range []int{0, 3, 2} {
		w.code(exit(number), api.OK)
		w.code(by(number, create(-1)), api.ErrCaller)
	}
	w.code(spawn(), api.ErrCaller)
	if s := w.kernels[0].State(); !sameState(s, api.State{NextId: 1, NextProc: 4}) {
		t.Errorf("P21.4: without processes: %+v", s)
	}
	loaded(t, c, nil, w.m.state()).code(exit(0), api.ErrCaller)
}

// P21.2: what a process made stays when it is gone.
func TestExitLeaves(t *testing.T) {
	w := made(t, roomy(), words(5, 6))
	w.do(spawn())
	w.wants(by(1, create(3)), api.Reply{Cap: of(1, 5)})
	w.wants(by(1, derive(of(1, 5), 3)), api.Reply{Cap: of(1, 6)})
	w.code(by(1, write(of(1, 6), 1, 4)), api.OK)
	w.code(exit(1), api.OK)
	w.wants(read(of(1, 6), 0, 3), api.Reply{Data: []byte{0, 4, 0}})
	w.code(destroy(of(1, 5)), api.OK)
}

// P21.6, W3: what a revoke took away is gone, for whoever gives or names it, though it was validated just before; what is outside validates as before.
func TestRevoked(t *testing.T) {
	for _, takes := range []api.Call{revoke(of(1, 6)), revoke(of(1, 5)), destroy(of(1, 9)), destroy(of(1, 6))} {
		w := made(t, roomy(), words(5, 6, 7, 8, 9, 5))
		w.do(create(2))
		w.wants(derive(of(1, 5), 31), api.Reply{Cap: of(1, 6)})
		w.wants(derive(of(1, 6), 31), api.Reply{Cap: of(1, 7)})
		w.wants(derive(of(1, 7), 3), api.Reply{Cap: of(1, 8)})
		w.wants(derive(of(1, 5), 19), api.Reply{Cap: of(1, 9)})
		w.wants(create(1), api.Reply{Cap: of(2, 5)})
		w.do(spawn())
		every := []api.Cap{of(1, 5), of(1, 6), of(1, 7), of(1, 8), of(1, 9), of(2, 5)}
		for _, x := range every {
			w.do(add(x))
			w.do(by(1, add(x)))
			w.code(write(x, 0, 1), api.OK)
		}
		live := w.m.state().Tokens
		w.code(takes, api.OK)
		left := w.m.state().Tokens
		for _, x := range live {
			stays := slices.ContainsFunc(left, func(l api.Token) bool { return l.Cap == x.Cap })
			want := api.ErrCap
			if stays {
				want = api.OK
			}
			w.code(write(x.Cap, 0, 2), want)
			if got := w.do(read(x.Cap, 0, 1)); got.Code != want {
				t.Errorf("W3: behind %+v: a read of %v: %d", takes, x.Cap, got.Code)
			}
			if !stays {
				w.code(derive(x.Cap, 1), api.ErrCap)
				w.code(revoke(x.Cap), api.ErrCap)
				w.code(destroy(x.Cap), api.ErrCap)
			}
		}
		w.do(named(1, 0, 1))
		w.do(by(1, writeNamed(1, 0, 1)))
		w.wants(named(2, 0, 1), api.Reply{Data: []byte{2}})
	}
}

// P21.6, W3: a word that is drawn again for its object has the new rights, whatever was known of the old ones.
func TestDrawnAgain(t *testing.T) {
	w := made(t, roomy(), words(1, 2, 2))
	w.do(create(4))
	w.wants(derive(of(1, 1), 31), api.Reply{Cap: of(1, 2)})
	w.do(add(of(1, 2)))
	w.code(writeNamed(1, 0, 3), api.OK)
	w.code(write(of(1, 2), 1, 4), api.OK)
	w.code(revoke(of(1, 2)), api.OK)
	w.code(writeNamed(1, 0, 5), api.ErrCap)
	w.code(write(of(1, 2), 1, 5), api.ErrCap)
	w.wants(derive(of(1, 1), api.Read), api.Reply{Cap: of(1, 2)})
	w.code(writeNamed(1, 0, 5), api.ErrRights)
	w.code(write(of(1, 2), 1, 5), api.ErrRights)
	w.wants(named(1, 0, 2), api.Reply{Data: []byte{3, 4}})
	w.wants(read(of(1, 2), 0, 2), api.Reply{Data: []byte{3, 4}})
}

// P21.6: epochs go round: behind each revoke what was known is known no more, also behind many.
func TestManyRevokes(t *testing.T) {
	c := roomy()
	c.Sets, c.Ways = 16, 4
	list := slices.Repeat(words(2, 3), 600)
	w := &world{t: t, c: c, draws: list, m: newModel(c, list)}
	k, _ := kernel.New(c, list)
	w.kernels = []*kernel.Kernel{k}
	root := w.do(create(1)).Cap
	for n := range 530 {
		rights := []int{31, 1, 2}[n%3] | api.Revoke
		x := w.do(derive(root, rights)).Cap
		w.do(write(x, 0, byte(n)))
		w.do(read(x, 0, 1))
		w.code(revoke(x), api.OK)
		w.code(read(x, 0, 1), api.ErrCap)
	}
}

// P21.4: tokens of several objects and generations, in the order of walk.Down, with parents' places in the whole list.
func TestTokensTold(t *testing.T) {
	w := made(t, roomy(), words(1, 1, 2, 2, 3, 3, 4, 4, 5, 5, 6, 7))
	w.do(create(0))
	w.do(create(64))
	w.wants(derive(of(2, 1), 31), api.Reply{Cap: of(2, 2)})
	w.wants(derive(of(1, 1), 31), api.Reply{Cap: of(1, 2)})
	w.wants(derive(of(2, 1), 7), api.Reply{Cap: of(2, 3)})
	w.wants(derive(of(1, 1), 31), api.Reply{Cap: of(1, 3)})
	w.wants(derive(of(2, 2), 15), api.Reply{Cap: of(2, 4)})
	w.wants(derive(of(1, 2), 3), api.Reply{Cap: of(1, 4)})
	w.wants(derive(of(2, 3), 1), api.Reply{Cap: of(2, 5)})
	w.wants(derive(of(2, 1), 1), api.Reply{Cap: of(2, 6)}) // 5 is there
	w.wants(derive(of(2, 4), 2), api.Reply{Cap: of(2, 7)})
	want := []api.Token{
		{Cap: of(1, 1), Rights: 31, Parent: -1},
		{Cap: of(1, 2), Rights: 31, Parent: 0},
		{Cap: of(1, 4), Rights: 3, Parent: 1},
		{Cap: of(1, 3), Rights: 31, Parent: 0},
		{Cap: of(2, 1), Rights: 31, Parent: -1},
		{Cap: of(2, 2), Rights: 31, Parent: 4},
		{Cap: of(2, 4), Rights: 15, Parent: 5},
		{Cap: of(2, 7), Rights: 2, Parent: 6},
		{Cap: of(2, 3), Rights: 7, Parent: 4},
		{Cap: of(2, 5), Rights: 1, Parent: 8},
		{Cap: of(2, 6), Rights: 1, Parent: 4},
	}
	for _, k := range w.kernels {
		if got := k.State().Tokens; !slices.Equal(got, want) {
			t.Errorf("P21.4: %+v, want %+v", got, want)
		}
	}
	w.code(revoke(of(2, 2)), api.OK)
	loaded(t, w.c, w.draws, w.m.state())
	w.code(revoke(of(1, 1)), api.OK)
	loaded(t, w.c, w.draws, w.m.state())
}

// P21.3: a record of no call is answered by the two bytes of ErrRecord, and changes nothing.
func TestRecords(t *testing.T) {
	w := made(t, small(), words(5, 6))
	w.do(create(3))
	rng := rand.New(rand.NewSource(213))
	for _, c := range []api.Call{create(3), derive(of(1, 5), 3), read(of(1, 5), 0, 3), write(of(1, 5), 0, 1), add(of(1, 5)), spawn(0), remove(0), exit(0), destroy(of(1, 5)), revoke(of(1, 5))} {
		whole, _ := record.Bytes(c)
		for n := range len(whole) {
			w.record(whole[:n])
		}
		w.record(append(slices.Clone(whole), 0))
		for range 40 {
			b := slices.Clone(whole)
			b[rng.Intn(len(b))] = byte(rng.Intn(256))
			w.record(b)
		}
		w.record(whole)
	}
	w = made(t, roomy(), words(5, 6))
	for range 2000 {
		b := make([]byte, rng.Intn(40))
		rng.Read(b)
		if len(b) > 2 {
			b[0], b[1], b[2] = byte(rng.Intn(12)), byte(rng.Intn(2)), 0
		}
		w.record(b)
	}
}

// record does a record on all.
func (w *world) record(b []byte) {
	w.t.Helper()
	want := []byte{1, 0}
	if c, code := record.Parse(b); code == api.OK {
		want, _ = record.Answer(c.Op, w.m.do(c))
	}
	for at, k := range w.kernels {
		if got := k.Record(b); !bytes.Equal(got, want) || len(got) < 2 {
			w.t.Fatalf("P21.3: kernel %d: Record(%x) = %x, want %x", at, b, got, want)
		}
	}
	w.holds("behind a record")
}

// P21.2, P21.3: calls that layer 20 has no bytes for, whoever calls.
func TestNoForm(t *testing.T) {
	w := made(t, roomy(), words(5, 6, 7))
	w.do(create(8))
	w.do(add(of(1, 5)))
	good := []api.Call{create(3), destroy(of(1, 5)), derive(of(1, 5), 3), revoke(of(1, 5)), read(of(1, 5), 0, 3), named(1, 0, 3), write(of(1, 5), 0, 1), writeNamed(1, 0, 1), add(of(1, 5)), remove(0), spawn(0), exit(0)}
	spoils := []func(*api.Call){
		func(c *api.Call) { c.Op = 0 },
		func(c *api.Call) { c.Op = 11 },
		func(c *api.Call) { c.Op = math.MinInt },
		func(c *api.Call) { c.Op = math.MaxInt },
		func(c *api.Call) { c.By = -1 },
		func(c *api.Call) { c.By = 65536 },
		func(c *api.Call) { c.Size = math.MaxInt },
		func(c *api.Call) { c.Size++ },
		func(c *api.Call) { c.Cap.Obj = -1 },
		func(c *api.Call) { c.Cap.Obj = 1<<62 + 1 },
		func(c *api.Call) { c.Cap.Pass.Hi = 1 },
		func(c *api.Call) { c.Given = !c.Given },
		func(c *api.Call) { c.Rights = 256 },
		func(c *api.Call) { c.Rights = -1 },
		func(c *api.Call) { c.Rights++ },
		func(c *api.Call) { c.Off = math.MinInt },
		func(c *api.Call) { c.Off++ },
		func(c *api.Call) { c.N = 1 << 31 },
		func(c *api.Call) { c.N++ },
		func(c *api.Call) { c.Data = make([]byte, 1026) },
		func(c *api.Call) { c.Data = []byte{} },
		func(c *api.Call) { c.Data = []byte{0} },
		func(c *api.Call) { c.Index = 65536 },
		func(c *api.Call) { c.Index++ },
		func(c *api.Call) { c.Gifts = make([]int, 256) },
		func(c *api.Call) { c.Gifts = []int{-1} },
		func(c *api.Call) { c.Gifts = []int{0} },
		func(c *api.Call) { c.Gifts = []int{} },
	}
	state := w.m.state()
	for _, c := range good {
		for at, spoil := range spoils {
			w = loaded(t, w.c, w.draws, state)
			bad := c
			spoil(&bad)
			reply := w.do(bad)
			if _, code := record.Bytes(bad); (code == api.OK) == (reply.Code == api.ErrRecord) {
				t.Errorf("P21.2: spoil %d of %+v: %d, the record's %d", at, c, reply.Code, code)
			}
			bad.By = 9
			if reply := w.do(bad); reply.Code != api.ErrRecord && reply.Code != api.ErrCaller {
				t.Errorf("P21.2: spoil %d of %+v by nobody: %d", at, c, reply.Code)
			}
		}
	}
}

// chooser: calls by chance, many of them near to what is live.
type chooser struct {
	rng  *rand.Rand
	m    *model
	seen []api.Cap // what was ever issued
}

// one gives one of some.
func one[T any](rng *rand.Rand, l ...T) T { return l[rng.Intn(len(l))] }

func (g *chooser) capability() api.Cap {
	x := of(g.rng.Intn(4), uint64(g.rng.Intn(4)))
	if len(g.seen) > 0 && g.rng.Intn(8) > 0 {
		x = g.seen[g.rng.Intn(len(g.seen))]
	}
	if live := g.m.state().Tokens; len(live) > 0 && g.rng.Intn(3) > 0 {
		x = live[g.rng.Intn(len(live))].Cap
	}
	switch g.rng.Intn(30) {
	case 0:
		x.Pass.Lo++
	case 1:
		x.Pass.Hi++
	case 2:
		x.Obj++
	case 3:
		x.Obj = 1 << 62
	}
	return x
}

func (g *chooser) rights() int {
	return one(g.rng, 31, 31, 31, 31, g.rng.Intn(32), g.rng.Intn(32), 12, 3, 1, 2, 0, 32, 255, 256, -1)
}

func (g *chooser) place() int {
	return one(g.rng, 0, 0, 0, 1, 1, 2, g.rng.Intn(8), g.rng.Intn(40), 65535, 65536, -1)
}

func (g *chooser) caller() int {
	if len(g.m.processes) > 0 && g.rng.Intn(20) > 0 {
		return g.m.processes[g.rng.Intn(len(g.m.processes))].number
	}
	return g.rng.Intn(g.m.nextProc + 1)
}

// span gives an offset and a length, most of them within an object.
func (g *chooser) span(obj int) (int, int) {
	size := 0
	for _, o := range g.m.objects {
		if o.id == obj {
			size = len(o.data)
		}
	}
	off := g.rng.Intn(size + 1)
	n := g.rng.Intn(min(size-off, 1024) + 1)
	switch g.rng.Intn(16) {
	case 0:
		off += n
	case 1:
		n++
	case 2:
		off, n = one(g.rng, -1, math.MinInt32, math.MaxInt32), g.rng.Intn(3)
	case 3:
		n = one(g.rng, 1024, 1025, 1026)
	}
	return off, n
}

func (g *chooser) access(c *api.Call) {
	c.Cap = g.capability()
	c.Given = g.rng.Intn(2) == 0
	off, n := g.span(c.Cap.Obj)
	if !c.Given {
		c.Cap.Pass = api.Word{}
	}
	c.Off = off
	if c.Op == api.OpRead {
		c.N = n
		return
	}
	c.Data = make([]byte, n)
	g.rng.Read(c.Data)
}

func (g *chooser) call() api.Call {
	c := api.Call{By: g.caller()}
	c.Op = one(g.rng, 1, 1, 1, 2, 3, 3, 3, 3, 3, 4, 4, 5, 5, 5, 5, 6, 6, 6, 6, 7, 7, 7, 8, 9, 9, 10, g.rng.Intn(14)-1)
	if c.Op == api.OpExit && len(g.m.processes) == 1 && g.rng.Intn(100) > 0 {
		c.Op = api.OpSpawn // without processes a run has nothing more to show
	}
	switch c.Op {
	case api.OpCreate:
		c.Size = one(g.rng, 0, 1, 63, 64, 65, g.rng.Intn(300), g.rng.Intn(5000), 4096, 4097, -1)
	case api.OpDestroy, api.OpRevoke, api.OpAdd:
		c.Cap = g.capability()
	case api.OpDerive:
		c.Cap, c.Rights = g.capability(), g.rights()
	case api.OpRead, api.OpWrite:
		g.access(&c)
	case api.OpRemove:
		c.Index = g.place()
	case api.OpSpawn:
		for range g.rng.Intn(one(g.rng, 1, 3, 5, 40)) {
			c.Gifts = append(c.Gifts, one(g.rng, 0, 0, 0, 1, 1, g.place()))
		}
	}
	switch g.rng.Intn(60) {
	case 0:
		c.Size++
	case 1:
		c.Index++
	case 2:
		c.Given = !c.Given
	case 3:
		c.By--
	}
	return c
}

// configs gives Configs whose bounds are met soon, each another one first.
func configs() []api.Config {
	return []api.Config{
		{Width: 2, Objects: 3, Pages: 70, Entries: 9, Quota: 4, Procs: 3, List: 3, Sets: 2, Ways: 2, Knob: 3},
		{Width: 1, Objects: 2, Pages: 3, Entries: 4, Quota: 3, Procs: 2, List: 2, Sets: 1, Ways: 1, Knob: 0},
		{Width: 3, Objects: 1, Pages: 64, Entries: 12, Quota: 12, Procs: 4, List: 4, Sets: 16, Ways: 4, Knob: 64},
		{Width: 128, Objects: 4, Pages: 256, Entries: 5, Quota: 256, Procs: 32, List: 32, Sets: 4, Ways: 1, Knob: 64},
		{Width: 4, Objects: 64, Pages: 256, Entries: 256, Quota: 256, Procs: 32, List: 1, Sets: 3, Ways: 3, Knob: 5},
		{Width: 65, Objects: 5, Pages: 9, Entries: 20, Quota: 2, Procs: 1, List: 5, Sets: 5, Ways: 2, Knob: 1},
	}
}

// P21.2 to P21.6, W1: long runs by chance: the kernels of all caches, and such as were loaded underway, answer as the model.
func TestChanceRuns(t *testing.T) {
	met := map[int]map[api.Errno]int{}
	for seed, c := range slices.Repeat(configs(), 3) {
		rng := rand.New(rand.NewSource(int64(seed)))
		list := make([]api.Word, []int{16, 80, 460}[seed/len(configs())])
		for at := range list {
			list[at] = api.Word{Hi: rng.Uint64(), Lo: rng.Uint64()}
		}
		w := made(t, c, list)
		g := &chooser{rng: rng, m: w.m}
		ids, numbers := 0, 0
		for step := range 700 {
			call := g.call()
			reply := w.do(call)
			if met[call.Op] == nil {
				met[call.Op] = map[api.Errno]int{}
			}
			met[call.Op][reply.Code]++
			switch {
			case reply.Code != api.OK:
			case call.Op == api.OpCreate:
				if reply.Cap.Obj <= ids {
					t.Fatalf("P21.6: the object %d behind %d", reply.Cap.Obj, ids)
				}
				ids = reply.Cap.Obj
				g.seen = append(g.seen, reply.Cap)
			case call.Op == api.OpDerive:
				g.seen = append(g.seen, reply.Cap)
			case call.Op == api.OpSpawn:
				if reply.Number <= numbers {
					t.Fatalf("P21.6: the process %d behind %d", reply.Number, numbers)
				}
				numbers = reply.Number
			}
			if step%50 == 49 {
				w.reload(rng.Intn(len(w.kernels)))
			}
		}
	}
	for op, codes := range map[int][]api.Errno{
		api.OpCreate:  {api.OK, api.ErrRecord, api.ErrCaller, api.ErrSize, api.ErrFull, api.ErrPages, api.ErrEntry, api.ErrDraws},
		api.OpDestroy: {api.OK, api.ErrRecord, api.ErrCaller, api.ErrCap, api.ErrRights},
		api.OpDerive:  {api.OK, api.ErrRecord, api.ErrCaller, api.ErrCap, api.ErrRights, api.ErrQuota, api.ErrEntry, api.ErrDraws, api.ErrTwin},
		api.OpRevoke:  {api.OK, api.ErrRecord, api.ErrCaller, api.ErrCap, api.ErrRights},
		api.OpRead:    {api.OK, api.ErrRecord, api.ErrCaller, api.ErrCap, api.ErrRights, api.ErrRange},
		api.OpWrite:   {api.OK, api.ErrRecord, api.ErrCaller, api.ErrCap, api.ErrRights, api.ErrRange},
		api.OpAdd:     {api.OK, api.ErrRecord, api.ErrCaller, api.ErrWidth, api.ErrList},
		api.OpRemove:  {api.OK, api.ErrRecord, api.ErrCaller, api.ErrIndex},
		api.OpSpawn:   {api.OK, api.ErrRecord, api.ErrCaller, api.ErrIndex, api.ErrList, api.ErrProcs},
		api.OpExit:    {api.OK, api.ErrRecord, api.ErrCaller},
	} {
		for _, code := range codes {
			if met[op][code] == 0 {
				t.Errorf("P21.2: no run met the code %d of the call %d", code, op)
			}
		}
	}
}

// reload puts in place of a kernel one that is loaded from its state.
func (w *world) reload(at int) {
	w.t.Helper()
	k := w.kernels[at]
	l, code := kernel.Load(k.Config(), w.draws, k.State())
	if code != api.OK {
		w.t.Fatalf("P21.6: Load of a kernel's own state: %d", code)
	}
	if l.Config() != k.Config() {
		w.t.Fatalf("P21.4: Config %+v, want %+v", l.Config(), k.Config())
	}
	w.kernels[at] = l
}

// P21.2, P21.6, W1: every run of four calls out of some, from a state in which most bounds are near.
func TestEveryShortRun(t *testing.T) {
	c := api.Config{Width: 2, Objects: 2, Pages: 2, Entries: 3, Quota: 2, Procs: 2, List: 1, Sets: 1, Ways: 2, Knob: 0}
	list := words(1, 1, 2, 1, 3)
	calls := []api.Call{
		create(65), create(1), destroy(of(1, 1)), derive(of(1, 1), 27), derive(of(1, 1), 1), revoke(of(1, 2)), revoke(of(1, 1)),
		read(of(1, 2), 0, 1), write(of(1, 1), 0, 7), named(1, 0, 1), writeNamed(1, 0, 9), add(of(1, 2)), remove(0), spawn(0), exit(0), by(1, named(1, 0, 1)),
	}
	var run func(k *kernel.Kernel, m *model, left int)
	run = func(k *kernel.Kernel, m *model, left int) {
		if left == 0 {
			return
		}
		for _, call := range calls {
			// the kernel is loaded at each step, and so is the model: a run's steps are told apart by nothing else
			l, code := kernel.Load(c, list, k.State())
			if code != api.OK {
				t.Fatalf("P21.6: Load(%+v): %d", k.State(), code)
			}
			n := load(c, list, m.state())
			want := n.do(call)
			if got := l.Do(call); !sameReply(got, want) || !sameState(l.State(), n.state()) {
				t.Fatalf("P21.2: %+v: %+v, %+v, want %+v, %+v", call, got, l.State(), want, n.state())
			}
			run(l, n, left-1)
		}
	}
	k, _ := kernel.New(c, list)
	m := newModel(c, list)
	for _, call := range []api.Call{create(1), add(of(1, 2))} {
		if got, want := k.Do(call), m.do(call); !sameReply(got, want) {
			t.Fatalf("P21.2: %+v: %+v, want %+v", call, got, want)
		}
	}
	run(k, m, 4)
}

// P21.6: the greatest numbers are given, and none behind them, though the objects and processes are gone.
func TestLastNumbers(t *testing.T) {
	s := newModel(roomy(), nil).state()
	s.NextId, s.NextProc = 1<<62-1, 65534
	w := loaded(t, roomy(), words(5, 6, 7, 8), s)
	w.wants(create(1), api.Reply{Cap: of(1<<62-1, 5)})
	w.wants(create(1), api.Reply{Cap: of(1<<62, 6)})
	w.code(create(1), api.ErrFull)
	w.code(create(4096), api.ErrFull)
	w.code(create(4097), api.ErrSize)
	w.wants(read(of(1<<62, 6), 0, 1), api.Reply{Data: []byte{0}})
	w.code(destroy(of(1<<62, 6)), api.OK)
	w.code(create(1), api.ErrFull)
	w.wants(spawn(), api.Reply{Number: 65534})
	w.wants(spawn(), api.Reply{Number: 65535})
	w.code(spawn(), api.ErrProcs)
	w.code(exit(65535), api.OK)
	w.code(spawn(), api.ErrProcs)
	loaded(t, roomy(), w.draws, w.m.state()).code(spawn(), api.ErrProcs)
}
