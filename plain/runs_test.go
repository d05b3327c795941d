package plain_test

import (
	"bytes"
	"math"
	"math/rand"
	"slices"
	"testing"

	"sesame/api"
	"sesame/kernel"
	"sesame/plain"
	"sesame/record"
)

// edges: for each field of a call values on both sides of its bounds.
func edges() []func(*api.Call) {
	var out []func(*api.Call)
	number := func(at func(*api.Call) *int, values ...int) {
		for _, v := range append(values, -1, 0, 1, math.MinInt, math.MaxInt) {
			out = append(out, func(c *api.Call) { *at(c) = v })
		}
	}
	number(func(c *api.Call) *int { return &c.Op }, 2, 3, 4, 5, 6, 7, 8, 9, 10, 11, 256+1)
	number(func(c *api.Call) *int { return &c.By }, 65535, 65536)
	number(func(c *api.Call) *int { return &c.Size }, math.MinInt32-1, math.MinInt32, math.MaxInt32, math.MaxInt32+1)
	number(func(c *api.Call) *int { return &c.Cap.Obj }, 1<<62, 1<<62+1)
	number(func(c *api.Call) *int { return &c.Rights }, 31, 32, 255, 256)
	number(func(c *api.Call) *int { return &c.Off }, math.MinInt32-1, math.MinInt32, math.MaxInt32, math.MaxInt32+1)
	number(func(c *api.Call) *int { return &c.N }, math.MinInt32-1, math.MinInt32, math.MaxInt32, math.MaxInt32+1)
	number(func(c *api.Call) *int { return &c.Index }, 65535, 65536)
	for _, w := range []api.Word{{}, {Lo: 1}, {Hi: 1}, {Hi: math.MaxUint64, Lo: math.MaxUint64}} {
		out = append(out, func(c *api.Call) { c.Cap.Pass = w })
	}
	out = append(out, func(c *api.Call) { c.Given = true }, func(c *api.Call) { c.Given = false })
	for _, n := range []int{0, 1, 1024, 1025, 1026} {
		out = append(out, func(c *api.Call) { c.Data = make([]byte, n) })
	}
	for _, gifts := range [][]int{nil, {}, {0}, {65535, 0}, {65536}, {0, -1}, make([]int, 255), make([]int, 256), {math.MaxInt}, {math.MinInt}} {
		out = append(out, func(c *api.Call) { c.Gifts = gifts })
	}
	return out
}

// P22.1: which calls are ErrRecord: those that layer 20 has no bytes for, whoever calls; every two fields at once at their edges.
func TestFormed(t *testing.T) {
	live, _ := plain.New(roomy(), words(5))
	dead, _ := plain.New(roomy(), words(5))
	dead.Do(exit())
	formed := 0
	for op := range 12 {
		for _, one := range edges() {
			for _, other := range edges() {
				c := api.Call{Op: op}
				one(&c)
				other(&c)
				_, want := record.Bytes(c)
				if want == api.OK {
					formed++
				}
				if got := dead.Do(c).Code; want != api.OK && got != want || want == api.OK && got != api.ErrCaller {
					t.Fatalf("P22.1: without a process: %+v: %d, record.Bytes: %d", c, got, want)
				}
				if c.Op == api.OpExit && want == api.OK {
					continue
				}
				if got := live.Do(c).Code; (got == api.ErrRecord) != (want == api.ErrRecord) {
					t.Fatalf("P22.1: %+v: %d, record.Bytes: %d", c, got, want)
				}
			}
		}
	}
	if formed == 0 {
		t.Error("no call of these was one")
	}
}

// P22.1: the rule's edges, said by the chapter alone.
func TestFormedEdges(t *testing.T) {
	wide := api.Cap{Obj: 1, Pass: api.Word{Hi: 1}}
	for _, x := range []struct {
		c    api.Call
		want api.Errno
	}{
		{api.Call{}, api.ErrRecord},
		{api.Call{Op: 11}, api.ErrRecord},
		{api.Call{Op: -1}, api.ErrRecord},
		{api.Call{Op: api.OpExit, By: 65535}, api.ErrCaller},
		{api.Call{Op: api.OpExit, By: 65536}, api.ErrRecord},
		{api.Call{Op: api.OpExit, By: -1}, api.ErrRecord},
		{api.Call{Op: api.OpExit, Given: true}, api.ErrRecord},
		{api.Call{Op: api.OpExit, Data: []byte{0}}, api.ErrRecord},
		{create(math.MaxInt32), api.ErrSize},
		{create(math.MaxInt32 + 1), api.ErrRecord},
		{create(math.MinInt32 - 1), api.ErrRecord},
		{api.Call{Op: api.OpDestroy, Cap: wide, Given: true}, api.ErrRecord},
		{destroy(wide), api.ErrCap},
		{destroy(of(1<<62, 0)), api.ErrCap},
		{destroy(of(1<<62+1, 0)), api.ErrRecord},
		{destroy(of(-1, 0)), api.ErrRecord},
		{derive(of(1, 1), 255), api.ErrCap},
		{derive(of(1, 1), 256), api.ErrRecord},
		{derive(of(1, 1), -1), api.ErrRecord},
		{api.Call{Op: api.OpRead, Cap: wide}, api.ErrRecord},
		{api.Call{Op: api.OpWrite, Cap: of(1, 1)}, api.ErrRecord},
		{read(wide, math.MinInt32, math.MaxInt32), api.ErrCap},
		{read(wide, math.MinInt32-1, 0), api.ErrRecord},
		{read(wide, 0, math.MaxInt32+1), api.ErrRecord},
		{api.Call{Op: api.OpRead, Data: []byte{0}}, api.ErrRecord},
		{api.Call{Op: api.OpWrite, N: 1}, api.ErrRecord},
		{write(wide, 0, make([]byte, 1025)...), api.ErrCap},
		{write(wide, 0, make([]byte, 1026)...), api.ErrRecord},
		{remove(65535), api.ErrIndex},
		{remove(65536), api.ErrRecord},
		{remove(-1), api.ErrRecord},
		{spawn(make([]int, 255)...), api.ErrIndex},
		{spawn(make([]int, 256)...), api.ErrRecord},
		{spawn(0, -1), api.ErrRecord},
		{api.Call{Op: api.OpSpawn, Index: 1}, api.ErrRecord},
		{api.Call{Op: api.OpAdd, Gifts: []int{0}}, api.ErrRecord},
		{api.Call{Op: api.OpAdd, Gifts: []int{}, Data: []byte{}}, api.OK},
	} {
		made(t, roomy(), words(5)).code(x.c, x.want)
	}
}

// chance makes Configs, draws and calls by chance, most of them near what is there.
type chance struct{ *rand.Rand }

func (r chance) among(numbers ...int) int { return numbers[r.Intn(len(numbers))] }

func (r chance) config() api.Config {
	return api.Config{
		Width: r.among(1, 2, 3, 4, 8, 64, 65, 128), Objects: r.among(1, 2, 3, 64), Pages: r.among(1, 2, 5, 256),
		Entries: r.among(1, 2, 5, 9, 256), Quota: r.among(1, 2, 4, 256), Procs: r.among(1, 2, 3, 32), List: r.among(1, 2, 3, 32),
		Sets: r.Intn(17), Ways: 1 + r.Intn(4), Knob: r.among(0, 1, 3, 64),
	}
}

func (r chance) draws() []api.Word {
	out := make([]api.Word, r.among(0, 3, 40, 400))
	small := r.Intn(2) == 0
	for at := range out {
		out[at] = api.Word{Hi: r.Uint64(), Lo: r.Uint64()}
		if small {
			out[at] = api.Word{Lo: uint64(r.Intn(12))}
		}
	}
	return out
}

// capability gives one that is live, or one beside it.
func (r chance) capability(s api.State) api.Cap {
	var x api.Cap
	if len(s.Tokens) > 0 {
		x = s.Tokens[r.Intn(len(s.Tokens))].Cap
	}
	switch r.Intn(12) {
	case 0:
		x.Obj += r.Intn(3) - 1
	case 1:
		x.Pass.Lo ^= 1 << r.Intn(64)
	case 2:
		x.Pass.Hi ^= 1 << r.Intn(64)
	case 3:
		x = of(r.Intn(5), uint64(r.Intn(16)))
	}
	return x
}

func (r chance) caller(s api.State) int {
	if len(s.Processes) > 0 && r.Intn(20) > 0 {
		return s.Processes[r.Intn(len(s.Processes))].Number
	}
	return r.Intn(6)
}

// move gives a read or write at a place near an edge.
func (r chance) move(s api.State) api.Call {
	c := api.Call{Op: api.OpRead + r.Intn(2), Cap: r.capability(s), Given: r.Intn(2) == 0}
	if !c.Given {
		c.Cap.Pass = api.Word{}
	}
	c.Off = r.among(0, 0, 1, 60, 64, 65, 1000, 4096, -1)
	n := r.among(0, 1, 3, 4, 24, 64, 65, 1024, 1025)
	if c.Op == api.OpRead {
		c.N = n
		return c
	}
	c.Data = make([]byte, n)
	r.Read(c.Data)
	return c
}

func (r chance) call(s api.State) api.Call {
	var c api.Call
	switch r.Intn(14) {
	case 0, 1:
		c = create(r.among(0, 1, 10, 64, 65, 300, 4096, 4097, -1))
	case 2:
		c = api.Call{Op: r.among(api.OpDestroy, api.OpRevoke), Cap: r.capability(s)}
	case 3:
		c = revoke(r.capability(s))
	case 4, 5, 6:
		c = derive(r.capability(s), r.among(31, 31, 15, 7, 3, 1, 2, 0, 32, r.Intn(40)))
	case 7, 8, 9:
		c = r.move(s)
	case 10:
		c = add(r.capability(s))
	case 11:
		c = remove(r.Intn(4))
	case 12:
		for range r.Intn(4) {
			c.Gifts = append(c.Gifts, r.Intn(3))
		}
		c.Op = api.OpSpawn
	case 13:
		c = exit()
		if r.Intn(3) > 0 {
			c = api.Call{Op: r.Intn(12), Size: r.Intn(2), Index: r.Intn(2), Rights: r.Intn(2)}
		}
	}
	return by(r.caller(s), c)
}

// P22.3, W1: a kernel of the same Config and draws answers the same, and is in the same state, behind every call.
func TestAsKernel(t *testing.T) {
	codes := map[api.Errno]int{}
	for seed := range 400 {
		r := chance{rand.New(rand.NewSource(int64(seed)))}
		p := made(t, r.config(), r.draws())
		for range 80 {
			codes[p.do(r.call(p.m.State())).Code]++
		}
	}
	for code := api.OK; code <= api.ErrIndex; code++ {
		if codes[code] == 0 && code != api.ErrConfig {
			t.Errorf("no call was answered %d", code)
		}
	}
	if codes[api.ErrWidth] == 0 {
		t.Error("no call was answered ErrWidth")
	}
}

// P22.3, W1: likewise for records, malformed ones too.
func TestAsKernelByBytes(t *testing.T) {
	for seed := range 60 {
		r := chance{rand.New(rand.NewSource(int64(1000 + seed)))}
		p := made(t, r.config(), r.draws())
		for range 80 {
			b, _ := record.Bytes(r.call(p.m.State()))
			if len(b) > 0 && r.Intn(4) == 0 {
				b[r.Intn(len(b))] = byte(r.Intn(256))
			}
			if r.Intn(8) == 0 {
				b = b[:r.Intn(len(b)+1)]
			}
			want := []byte{1, 0}
			if c, code := record.Parse(b); code == api.OK {
				want, _ = record.Answer(c.Op, p.m.Do(c))
			}
			if got := p.k.Record(b); !bytes.Equal(got, want) {
				t.Fatalf("P22.3: the kernel's Record(%x) = %x, the model's %x", b, got, want)
			}
		}
	}
}

// P22.2, P22.3: Run answers as a model does call by call, and as a kernel; a list's beginning has the answers' beginning; Sets, Ways and Knob show nowhere.
func TestRuns(t *testing.T) {
	for seed := range 40 {
		r := chance{rand.New(rand.NewSource(int64(2000 + seed)))}
		c, draws := r.config(), r.draws()
		m, _ := plain.New(c, draws)
		var calls []api.Call
		var want []api.Reply
		for range 60 {
			calls = append(calls, r.call(m.State()))
			want = append(want, m.Do(calls[len(calls)-1]))
		}
		for range 3 {
			n := r.Intn(len(calls) + 1)
			c.Sets, c.Ways, c.Knob = r.Intn(17), 1+r.Intn(4), r.Intn(65)
			got, code := plain.Run(c, draws, calls[:n])
			if code != api.OK || !slices.EqualFunc(got, want[:n], sameReply) {
				t.Fatalf("P22.3: the first %d of %+v: %+v, %d, want %+v", n, calls, got, code, want[:n])
			}
			k, _ := kernel.New(c, draws)
			for at, call := range calls[:n] {
				if reply := k.Do(call); !sameReply(reply, want[at]) {
					t.Fatalf("P22.3: the kernel's Do(%+v) = %+v, want %+v", call, reply, want[at])
				}
			}
		}
	}
}

// P22.1: as much as may be at once: objects, pages, tokens in a chain and in a star, processes, lists.
func TestFull(t *testing.T) {
	c := api.Config{Width: 16, Objects: 64, Pages: 256, Entries: 256, Quota: 256, Procs: 32, List: 32, Sets: 16, Ways: 4, Knob: 64}
	draws := make([]api.Word, 4096)
	for at := range draws {
		draws[at].Lo = uint64(at)
	}
	for _, chain := range []bool{true, false} {
		p := made(t, c, draws)
		for range 63 {
			p.do(create(0))
		}
		p.wants(create(4096), api.Reply{Cap: of(64, 63)})
		p.code(create(0), api.ErrFull)
		from := of(64, 63)
		for n := range 256 - 64 {
			made := p.do(derive(from, 31))
			if made.Cap != of(64, uint64(64+n)) {
				t.Fatalf("P22.1: derived %+v", made)
			}
			if chain {
				from = made.Cap
			}
		}
		p.code(derive(from, 31), api.ErrEntry)
		p.code(revoke(of(64, 64)), api.OK)
		if left := len(p.m.State().Tokens); chain && left != 64 || !chain && left != 255 {
			t.Errorf("P22.1: %d tokens are left, a chain: %v", left, chain)
		}
		for range 32 {
			p.code(add(of(64, 63)), api.OK)
		}
		p.code(add(of(64, 63)), api.ErrList)
		for range 31 {
			p.do(spawn(make([]int, 32)...))
		}
		p.code(spawn(), api.ErrProcs)
		p.code(spawn(make([]int, 33)...), api.ErrList)
	}
}
