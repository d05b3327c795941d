package plain_test

import (
	"bytes"
	"math"
	"slices"
	"testing"

	"sesame/api"
	"sesame/kernel"
	"sesame/plain"
)

// of gives a capability with a small word.
func of(obj int, word uint64) api.Cap { return api.Cap{Obj: obj, Pass: api.Word{Lo: word}} }

// words gives the words of small numbers.
func words(numbers ...uint64) []api.Word {
	var out []api.Word
	for _, n := range numbers {
		out = append(out, api.Word{Lo: n})
	}
	return out
}

// small: the Config of chapter 21's examples.
func small() api.Config {
	return api.Config{Width: 8, Objects: 2, Pages: 3, Entries: 4, Quota: 3, Procs: 2, List: 2, Sets: 1, Ways: 1}
}

// roomy: one in which little is refused.
func roomy() api.Config {
	return api.Config{Width: 8, Objects: 8, Pages: 80, Entries: 32, Quota: 16, Procs: 8, List: 8, Sets: 4, Ways: 2, Knob: 64}
}

func create(size int) api.Call         { return api.Call{Op: api.OpCreate, Size: size} }
func destroy(x api.Cap) api.Call       { return api.Call{Op: api.OpDestroy, Cap: x} }
func derive(x api.Cap, r int) api.Call { return api.Call{Op: api.OpDerive, Cap: x, Rights: r} }
func revoke(x api.Cap) api.Call        { return api.Call{Op: api.OpRevoke, Cap: x} }
func add(x api.Cap) api.Call           { return api.Call{Op: api.OpAdd, Cap: x} }
func remove(index int) api.Call        { return api.Call{Op: api.OpRemove, Index: index} }
func spawn(gifts ...int) api.Call      { return api.Call{Op: api.OpSpawn, Gifts: gifts} }
func exit() api.Call                   { return api.Call{Op: api.OpExit} }

func read(x api.Cap, off, n int) api.Call {
	return api.Call{Op: api.OpRead, Given: true, Cap: x, Off: off, N: n}
}

func readNamed(obj, off, n int) api.Call {
	return api.Call{Op: api.OpRead, Cap: of(obj, 0), Off: off, N: n}
}

func write(x api.Cap, off int, data ...byte) api.Call {
	return api.Call{Op: api.OpWrite, Given: true, Cap: x, Off: off, Data: data}
}

func writeNamed(obj, off int, data ...byte) api.Call {
	return api.Call{Op: api.OpWrite, Cap: of(obj, 0), Off: off, Data: data}
}

func by(number int, c api.Call) api.Call {
	c.By = number
	return c
}

// sameReply tells whether two replies are one; an empty list may be nil.
func sameReply(a, b api.Reply) bool {
	return a.Code == b.Code && a.Cap == b.Cap && a.Number == b.Number && bytes.Equal(a.Data, b.Data)
}

// sameState tells whether two states are one.
func sameState(a, b api.State) bool {
	objects := slices.EqualFunc(a.Objects, b.Objects, func(x, y api.Object) bool { return x.Id == y.Id && bytes.Equal(x.Bytes, y.Bytes) })
	processes := slices.EqualFunc(a.Processes, b.Processes, func(x, y api.Process) bool { return x.Number == y.Number && slices.Equal(x.List, y.List) })
	return objects && processes && slices.Equal(a.Tokens, b.Tokens) && a.NextId == b.NextId && a.NextProc == b.NextProc && a.Taken == b.Taken
}

// pair: a model, and a kernel that is to answer as it does.
type pair struct {
	t *testing.T
	m *plain.Model
	k *kernel.Kernel
}

func made(t *testing.T, c api.Config, draws []api.Word) *pair {
	t.Helper()
	m, code := plain.New(c, draws)
	if code != api.OK || m == nil {
		t.Fatalf("P22.1: New(%+v): %d", c, code)
	}
	k, code := kernel.New(c, draws)
	if code != api.OK {
		t.Fatalf("P21.1: New(%+v): %d", c, code)
	}
	return &pair{t, m, k}
}

// do does one call on both, and looks at what it left.
func (p *pair) do(c api.Call) api.Reply {
	p.t.Helper()
	before := p.m.State()
	got, want := p.m.Do(c), p.k.Do(c)
	if !sameReply(got, want) {
		p.t.Fatalf("P22.3: Do(%+v) = %+v, the kernel's %+v", c, got, want)
	}
	after := p.m.State()
	if s := p.k.State(); !sameState(after, s) {
		p.t.Fatalf("P22.1: behind %+v: %+v, the kernel's %+v", c, after, s)
	}
	if got.Code == api.OK {
		return got
	}
	if !sameReply(got, api.Reply{Code: got.Code}) {
		p.t.Fatalf("P22.1: refused, Do(%+v) = %+v", c, got)
	}
	if c.Op == api.OpDerive && (got.Code == api.ErrDraws || got.Code == api.ErrTwin) {
		after.Taken = before.Taken
	}
	if !sameState(before, after) {
		p.t.Fatalf("P22.1: refused with %d, %+v has changed %+v to %+v", got.Code, c, before, after)
	}
	return got
}

// wants does one call that must be answered so, as the document says.
func (p *pair) wants(c api.Call, want api.Reply) {
	p.t.Helper()
	if got := p.do(c); !sameReply(got, want) {
		p.t.Fatalf("P22.1: Do(%+v) = %+v, want %+v", c, got, want)
	}
}

// code: one call that must be answered by a code alone.
func (p *pair) code(c api.Call, want api.Errno) {
	p.t.Helper()
	p.wants(c, api.Reply{Code: want})
}

// taken: how many draws must be taken.
func (p *pair) taken(want int) {
	p.t.Helper()
	if got := p.m.State().Taken; got != want {
		p.t.Errorf("P22.1: taken %d, want %d", got, want)
	}
}

// P22.1: chapter 21's examples 1 to 6.
func TestExamples(t *testing.T) {
	p := made(t, small(), words(5, 261, 5, 7, 9, 11))
	p.wants(create(65), api.Reply{Cap: of(1, 5)})
	want := api.State{
		Objects:   []api.Object{{Id: 1, Bytes: make([]byte, 65)}},
		Tokens:    []api.Token{{Cap: of(1, 5), Rights: 31, Parent: -1}},
		Processes: []api.Process{{}},
		NextId:    2, NextProc: 1, Taken: 1,
	}
	if s := p.m.State(); !sameState(s, want) {
		t.Errorf("P22.1: %+v, want %+v", s, want)
	}
	p.code(create(65), api.ErrPages)
	p.code(create(4097), api.ErrSize)
	p.code(create(-1), api.ErrSize)
	p.code(by(1, create(0)), api.ErrCaller)

	p.wants(derive(of(1, 5), 3), api.Reply{Cap: of(1, 7)})
	p.taken(4)
	p.code(derive(of(1, 7), 1), api.ErrRights)
	p.code(derive(of(1, 5), 32), api.ErrRights)
	p.code(derive(of(1, 5), 0), api.ErrRights)
	p.code(derive(of(1, 9), 1), api.ErrCap)

	p.code(write(of(1, 7), 64, 9), api.OK)
	p.code(write(of(1, 7), 65), api.OK)
	p.code(write(of(1, 7), 65, 9), api.ErrRange)
	p.wants(read(of(1, 7), 60, 5), api.Reply{Data: []byte{0, 0, 0, 0, 9}})
	p.code(readNamed(1, 0, 1), api.ErrCap)
	p.code(add(of(1, 263)), api.ErrWidth)
	p.code(add(of(1, 7)), api.OK)
	p.wants(readNamed(1, 0, 1), api.Reply{Data: []byte{0}})
	p.code(add(of(1, 7)), api.OK)
	p.code(add(of(1, 7)), api.ErrList)

	p.wants(spawn(0, 0), api.Reply{Number: 1})
	p.code(spawn(2), api.ErrIndex)
	p.code(spawn(), api.ErrProcs)
	want = api.State{
		Objects:   []api.Object{{Id: 1, Bytes: append(make([]byte, 64), 9)}},
		Tokens:    []api.Token{{Cap: of(1, 5), Rights: 31, Parent: -1}, {Cap: of(1, 7), Rights: 3, Parent: 0}},
		Processes: []api.Process{{Number: 0, List: []api.Cap{of(1, 7), of(1, 7)}}, {Number: 1, List: []api.Cap{of(1, 7), of(1, 7)}}},
		NextId:    2, NextProc: 2, Taken: 4,
	}
	if s := p.m.State(); !sameState(s, want) {
		t.Errorf("P22.1: %+v, want %+v", s, want)
	}
	p.code(by(1, remove(5)), api.ErrIndex)

	p.code(revoke(of(1, 7)), api.ErrRights)
	p.code(revoke(of(1, 5)), api.OK)
	p.code(read(of(1, 7), 0, 0), api.ErrCap)
	p.code(by(1, readNamed(1, 0, 0)), api.ErrCap)
	p.wants(create(0), api.Reply{Cap: of(2, 9)})

	p.code(api.Call{Op: 11}, api.ErrRecord)
	p.code(api.Call{Op: 5, Size: 1}, api.ErrRecord)
	p.code(api.Call{Op: 1, By: -1}, api.ErrRecord)
}

// bound: a number of a Config, and its bounds.
type bound struct {
	name        string
	at          func(*api.Config) *int
	least, most int
}

func bounds() []bound {
	return []bound{
		{"Width", func(c *api.Config) *int { return &c.Width }, 1, 128},
		{"Objects", func(c *api.Config) *int { return &c.Objects }, 1, 64},
		{"Pages", func(c *api.Config) *int { return &c.Pages }, 1, 256},
		{"Entries", func(c *api.Config) *int { return &c.Entries }, 1, 256},
		{"Quota", func(c *api.Config) *int { return &c.Quota }, 1, 256},
		{"Procs", func(c *api.Config) *int { return &c.Procs }, 1, 32},
		{"List", func(c *api.Config) *int { return &c.List }, 1, 32},
		{"Sets", func(c *api.Config) *int { return &c.Sets }, 0, 16},
		{"Ways", func(c *api.Config) *int { return &c.Ways }, 1, 4},
		{"Knob", func(c *api.Config) *int { return &c.Knob }, 0, 64},
	}
}

// P22.1, P22.2: which Configs may be, told ahead of too many draws; what a new model holds.
func TestNew(t *testing.T) {
	fresh := api.State{Processes: []api.Process{{}}, NextId: 1, NextProc: 1}
	for _, b := range bounds() {
		for n, may := range map[int]bool{b.least: true, b.most: true, b.least - 1: false, b.most + 1: false, math.MinInt: false, math.MaxInt: false} {
			for _, many := range []int{0, 1, 4096, 4097} {
				want := api.OK
				if !may {
					want = api.ErrConfig
				} else if many > 4096 {
					want = api.ErrMany
				}
				c := small()
				*b.at(&c) = n
				m, code := plain.New(c, make([]api.Word, many))
				if code != want || (m != nil) != (want == api.OK) {
					t.Errorf("P22.1: %s %d, %d draws: %d, want %d", b.name, n, many, code, want)
				}
				if m != nil && !sameState(m.State(), fresh) {
					t.Errorf("P22.1: %s %d: %+v", b.name, n, m.State())
				}
				replies, code := plain.Run(c, make([]api.Word, many), []api.Call{exit(), exit()})
				if code != want || want != api.OK && len(replies) != 0 || want == api.OK && len(replies) != 2 {
					t.Errorf("P22.2: %s %d, %d draws: %+v, %d", b.name, n, many, replies, code)
				}
			}
		}
	}
}

// P22.2: the chapter's second example, and a run whose calls hang on those ahead of them.
func TestRun(t *testing.T) {
	if l, code := plain.Run(api.Config{}, words(5), []api.Call{create(1)}); len(l) != 0 || code != api.ErrConfig {
		t.Errorf("P22.2: %+v, %d", l, code)
	}
	if l, code := plain.Run(small(), words(5), nil); len(l) != 0 || code != api.OK {
		t.Errorf("P22.2: %+v, %d", l, code)
	}
	calls := []api.Call{create(2), write(of(1, 5), 1, 8), {Op: 12}, add(of(1, 5)), readNamed(1, 0, 2), spawn(0), exit(), exit(), by(1, readNamed(1, 1, 1)), by(1, destroy(of(1, 5))), by(1, create(0))}
	want := []api.Reply{{Cap: of(1, 5)}, {}, {Code: api.ErrRecord}, {}, {Data: []byte{0, 8}}, {Number: 1}, {}, {Code: api.ErrCaller}, {Data: []byte{8}}, {}, {Code: api.ErrDraws}}
	for n := range len(calls) + 1 {
		if l, code := plain.Run(small(), words(5), calls[:n]); code != api.OK || !slices.EqualFunc(l, want[:n], sameReply) {
			t.Errorf("P22.2, P22.3: %+v, %d, want %+v", l, code, want[:n])
		}
	}
}

// P22.1: draws are cut to the width, from the narrowest to the widest; a word that doesn't fit is never live.
func TestWidths(t *testing.T) {
	all := api.Word{Hi: math.MaxUint64, Lo: math.MaxUint64}
	for width := 1; width <= 128; width++ {
		c := roomy()
		c.Width = width
		fits := api.Cap{Obj: 1, Pass: api.Word{Lo: math.MaxUint64}}
		if width < 64 {
			fits.Pass.Lo = 1<<width - 1
		} else {
			fits.Pass.Hi = 1<<(width-64) - 1
		}
		p := made(t, c, []api.Word{all, all})
		p.wants(create(1), api.Reply{Cap: fits})
		p.code(add(fits), api.OK)
		p.wants(readNamed(1, 0, 1), api.Reply{Data: []byte{0}})
		p.code(derive(fits, 1), api.ErrDraws)
		p.taken(2)
		if width == 128 {
			continue
		}
		wide := api.Cap{Obj: 1, Pass: all}
		p.code(add(wide), api.ErrWidth)
		p.code(read(wide, 0, 0), api.ErrCap)
		p.code(derive(wide, 1), api.ErrCap)
		p.code(revoke(wide), api.ErrCap)
		p.code(destroy(wide), api.ErrCap)
	}
}

// P22.1: a create's errors, each where those behind it apply too.
func TestOrderCreate(t *testing.T) {
	c := small()
	c.Objects, c.Pages, c.Entries = 1, 1, 1
	p := made(t, c, words(5))
	p.code(api.Call{Op: api.OpCreate, By: 1, Size: 1 << 31}, api.ErrRecord)
	p.code(by(1, create(-1)), api.ErrCaller)
	p.code(create(65), api.ErrPages)
	p.wants(create(64), api.Reply{Cap: of(1, 5)})
	p.code(create(4097), api.ErrSize)
	p.code(create(-1), api.ErrSize)
	p.code(create(math.MinInt32), api.ErrSize)
	p.code(create(math.MaxInt32), api.ErrSize)
	p.code(create(4096), api.ErrFull)

	c.Objects = 3
	p = made(t, c, words(5))
	p.do(create(64))
	p.code(create(1), api.ErrPages)
	p.code(create(0), api.ErrEntry)
	c.Entries = 3
	p = made(t, c, words(5))
	p.do(create(64))
	p.code(create(1), api.ErrPages)
	p.code(create(0), api.ErrDraws)
	p.taken(1)
	p = made(t, c, words(5, 5, 5, 6))
	p.do(create(64))
	p.wants(create(0), api.Reply{Cap: of(2, 5)})
	p.wants(derive(of(2, 5), 1), api.Reply{Cap: of(2, 6)}) // the entries are full now
	p.code(create(0), api.ErrEntry)
}

// P22.1: objects of all sizes have their pages, which come free with them.
func TestPages(t *testing.T) {
	for _, size := range []int{0, 1, 63, 64, 65, 128, 129, 1024, 4095, 4096} {
		pages := (size + 63) / 64
		c := roomy()
		c.Pages = pages + 1
		p := made(t, c, slices.Repeat(words(5), 9))
		p.wants(create(size), api.Reply{Cap: of(1, 5)})
		p.code(create(65), api.ErrPages)
		p.wants(create(64), api.Reply{Cap: of(2, 5)})
		p.code(create(1), api.ErrPages)
		p.wants(create(0), api.Reply{Cap: of(3, 5)})
		p.code(destroy(of(1, 5)), api.OK)
		if size > 0 {
			p.wants(create(size), api.Reply{Cap: of(4, 5)})
		}
		p.code(create(1), api.ErrPages)
	}
}

// P22.1: a derive's errors, likewise; what it draws.
func TestOrderDerive(t *testing.T) {
	c := small()
	c.Entries, c.Quota = 2, 2
	p := made(t, c, slices.Repeat(words(5), 12))
	p.do(create(0))
	p.code(derive(of(9, 6), 256), api.ErrRecord)
	p.code(by(9, derive(of(1, 6), 0)), api.ErrCaller)
	p.code(derive(of(1, 6), 0), api.ErrCap)
	p.code(derive(of(2, 5), 0), api.ErrCap)
	p.code(derive(of(0, 5), 1), api.ErrCap)
	p.code(derive(of(1, 5+256), 1), api.ErrCap)
	p.code(derive(of(1, 5), 255), api.ErrRights)
	p.taken(1)
	p.code(derive(of(1, 5), 1), api.ErrTwin)
	p.taken(10)
	p.code(derive(of(1, 5), 1), api.ErrDraws)
	p.taken(12)
	p.code(derive(of(1, 5), 1), api.ErrDraws)
	p.code(derive(of(1, 5), 0), api.ErrRights)

	draws := words(5, 6)
	p = made(t, c, draws)
	p.do(create(0))
	p.wants(derive(of(1, 5), 30), api.Reply{Cap: of(1, 6)})
	p.code(derive(of(1, 6), 1), api.ErrRights)
	p.code(derive(of(1, 6), 2), api.ErrQuota) // the entries are full too, and the draws are at their end
	c.Quota = 3
	p = made(t, c, draws)
	p.do(create(0))
	p.do(derive(of(1, 5), 30))
	p.code(derive(of(1, 6), 2), api.ErrEntry)
	c.Entries = 3
	p = made(t, c, draws)
	p.do(create(0))
	p.do(derive(of(1, 5), 30))
	p.code(derive(of(1, 6), 2), api.ErrDraws)
}

// P22.1: with up to ten twins ahead of a new word the ninth draw is the last.
func TestTwins(t *testing.T) {
	for twins := range 11 {
		draws := append(slices.Repeat(words(5), twins+1), words(6)...)
		p := made(t, roomy(), draws)
		p.do(create(0))
		if twins < 9 {
			p.wants(derive(of(1, 5), 1), api.Reply{Cap: of(1, 6)})
			p.taken(twins + 2)
			continue
		}
		p.code(derive(of(1, 5), 1), api.ErrTwin)
		p.taken(10)
		p.wants(derive(of(1, 5), 1), api.Reply{Cap: of(1, 6)})
	}
}

// P22.1: each right by itself lets just its own call through, and each part of rights can be derived.
func TestRights(t *testing.T) {
	for rights := 1; rights <= 31; rights++ {
		calls := map[int]api.Call{
			api.Read:    read(of(1, 6), 0, 1),
			api.Write:   write(of(1, 6), 0, 7),
			api.Derive:  derive(of(1, 6), rights),
			api.Revoke:  revoke(of(1, 6)),
			api.Destroy: destroy(of(1, 6)),
		}
		for one, c := range calls {
			p := made(t, roomy(), words(5, 6, 7))
			p.do(create(1))
			p.wants(derive(of(1, 5), rights), api.Reply{Cap: of(1, 6)})
			want := api.ErrRights
			if rights&one != 0 {
				want = api.OK
			}
			if got := p.do(c); got.Code != want {
				t.Errorf("P22.1: rights %d, %+v: %d, want %d", rights, c, got.Code, want)
			}
		}
		for below := range 64 {
			p := made(t, roomy(), words(5, 6, 7))
			p.do(create(1))
			p.do(derive(of(1, 5), rights|api.Derive))
			want := api.ErrRights
			if below > 0 && below < 32 && below&^(rights|api.Derive) == 0 {
				want = api.OK
			}
			if got := p.do(derive(of(1, 6), below)); got.Code != want {
				t.Errorf("P22.1: %d of %d: %d, want %d", below, rights|api.Derive, got.Code, want)
			}
		}
	}
}

// P22.1: reads and writes at the edges of an object, given and named.
func TestRange(t *testing.T) {
	for _, size := range []int{0, 1, 64, 65, 1023, 1024, 1025, 4096} {
		p := made(t, roomy(), words(5))
		p.do(create(size))
		p.do(add(of(1, 5)))
		for _, off := range []int{math.MinInt32, -1, 0, 1, size - 1024, size - 1, size, size + 1, math.MaxInt32} {
			for _, n := range []int{math.MinInt32, -1, 0, 1, 64, size - off, size - off + 1, 1024, 1025, math.MaxInt32} {
				want := api.OK
				switch {
				case n < math.MinInt32 || n > math.MaxInt32:
					want = api.ErrRecord
				case off < 0 || n < 0 || n > 1024 || off+n > size:
					want = api.ErrRange
				}
				for _, c := range []api.Call{read(of(1, 5), off, n), readNamed(1, off, n)} {
					if got := p.do(c); got.Code != want || want == api.OK && len(got.Data) != n {
						t.Errorf("P22.1: size %d: %+v: %d, want %d", size, c, got.Code, want)
					}
				}
				if n < 0 || n > 1025 {
					continue
				}
				p.code(write(of(1, 5), off, bytes.Repeat([]byte{byte(n)}, n)...), want)
				p.code(writeNamed(1, off, bytes.Repeat([]byte{byte(off)}, n)...), want)
			}
		}
	}
	p := made(t, roomy(), words(5, 6))
	p.do(create(10))
	p.do(derive(of(1, 5), api.Derive))
	p.code(read(of(1, 9), -1, 1), api.ErrCap)
	p.code(read(of(1, 6), -1, 1), api.ErrRights)
	p.code(write(of(1, 9), -1, 1), api.ErrCap)
	p.code(write(of(1, 6), -1, 1), api.ErrRights)
	p.code(write(of(1, 5), 3, 1, 2, 3), api.OK)
	p.code(write(of(1, 5), 4, 9), api.OK)
	p.wants(read(of(1, 5), 2, 6), api.Reply{Data: []byte{0, 1, 9, 3, 0, 0}})
	p.code(write(of(1, 5), 8, 1, 2, 3), api.ErrRange)
	p.wants(read(of(1, 5), 8, 2), api.Reply{Data: []byte{0, 0}})
}

// P22.1: what is named is looked for in the caller's list, in its order, and in no other's.
func TestNamed(t *testing.T) {
	p := made(t, roomy(), words(5, 6, 7))
	p.do(create(1))
	p.do(create(1))
	p.wants(derive(of(1, 5), api.Read), api.Reply{Cap: of(1, 7)})
	p.do(spawn())
	for _, x := range []api.Cap{of(1, 99), of(2, 6), of(1, 7), of(1, 98), of(0, 5)} {
		p.code(add(x), api.OK)
	}
	p.code(writeNamed(1, 0, 1), api.ErrRights)
	p.wants(readNamed(1, 0, 1), api.Reply{Data: []byte{0}})
	p.code(by(1, readNamed(1, 0, 1)), api.ErrCap)
	p.code(readNamed(3, 0, 1), api.ErrCap)
	p.code(readNamed(0, 0, 1), api.ErrCap)
	p.code(readNamed(1, 0, 2), api.ErrRange)
	p.code(add(of(1, 5)), api.OK)
	p.code(writeNamed(1, 0, 1), api.OK)
	p.wants(readNamed(1, 0, 1), api.Reply{Data: []byte{1}})
	p.code(writeNamed(2, 0, 2), api.OK)
	p.wants(read(of(2, 6), 0, 1), api.Reply{Data: []byte{2}})
	p.code(revoke(of(1, 5)), api.OK)
	p.code(readNamed(1, 0, 1), api.ErrCap)
	p.wants(readNamed(2, 0, 1), api.Reply{Data: []byte{2}})
}

// P22.1: lists, gifts and processes, each error where those behind it apply too.
func TestProcesses(t *testing.T) {
	c := small()
	c.Procs = 3
	p := made(t, c, nil)
	p.code(spawn(0), api.ErrIndex)
	p.code(remove(0), api.ErrIndex)
	p.code(add(of(1<<62, 255)), api.OK)
	p.code(add(of(1<<62+1, 255)), api.ErrRecord)
	p.code(add(of(0, 0)), api.OK)
	p.code(add(of(1, 256)), api.ErrWidth) // the list is full too
	p.code(add(of(1, 255)), api.ErrList)
	p.code(spawn(0, 1, 2), api.ErrIndex) // too many too
	p.code(spawn(0, 1, 1), api.ErrList)
	p.code(spawn(65535), api.ErrIndex)
	p.code(spawn(65536), api.ErrRecord)
	p.wants(spawn(1, 0), api.Reply{Number: 1})
	p.wants(by(1, spawn(0)), api.Reply{Number: 2})
	p.code(spawn(0, 1, 1), api.ErrList) // no process more either
	p.code(spawn(0, 1), api.ErrProcs)
	p.code(by(2, remove(1)), api.ErrIndex)
	p.code(by(2, remove(0)), api.OK)
	p.code(by(2, remove(0)), api.ErrIndex)
	p.code(remove(0), api.OK)
	p.code(remove(65535), api.ErrIndex)
	p.code(by(1, exit()), api.OK)
	p.code(by(1, exit()), api.ErrCaller)
	p.wants(spawn(0), api.Reply{Number: 3})
	want := api.State{
		Processes: []api.Process{{Number: 0, List: []api.Cap{of(0, 0)}}, {Number: 2}, {Number: 3, List: []api.Cap{of(0, 0)}}},
		NextId:    1, NextProc: 4,
	}
	if s := p.m.State(); !sameState(s, want) {
		t.Errorf("P22.1: %+v, want %+v", s, want)
	}
	for _, number := range []int{0, 3, 2} {
		p.code(by(number, exit()), api.OK)
		p.code(by(number, create(-1)), api.ErrCaller)
	}
	if s := p.m.State(); !sameState(s, api.State{NextId: 1, NextProc: 4}) {
		t.Errorf("P22.1: without processes: %+v", s)
	}
}

// P22.1: those behind a capability that is removed move up by one.
func TestRemove(t *testing.T) {
	for at := range 5 {
		p := made(t, roomy(), nil)
		var list []api.Cap
		for n := range 5 {
			list = append(list, of(n, uint64(n)))
			p.code(add(list[n]), api.OK)
		}
		p.code(remove(at), api.OK)
		if got, want := p.m.State().Processes[0].List, slices.Delete(list, at, at+1); !slices.Equal(got, want) {
			t.Errorf("P22.1: remove %d: %v, want %v", at, got, want)
		}
	}
}

// P22.1: what a process made stays when it is gone.
func TestExitLeaves(t *testing.T) {
	p := made(t, roomy(), words(5, 6))
	p.do(spawn())
	p.wants(by(1, create(3)), api.Reply{Cap: of(1, 5)})
	p.wants(by(1, derive(of(1, 5), 3)), api.Reply{Cap: of(1, 6)})
	p.code(by(1, write(of(1, 6), 1, 4)), api.OK)
	p.code(by(1, exit()), api.OK)
	p.wants(read(of(1, 6), 0, 3), api.Reply{Data: []byte{0, 4, 0}})
	p.code(destroy(of(1, 5)), api.OK)
}

// P22.1: processes' numbers rise to the greatest, and none is given twice.
func TestNumbers(t *testing.T) {
	c := small()
	c.Procs = 3
	m, _ := plain.New(c, nil)
	for number := 1; number <= 65535; number++ {
		if got := m.Do(spawn()); !sameReply(got, api.Reply{Number: number}) {
			t.Fatalf("P22.1: %+v, want number %d", got, number)
		}
		if got := m.Do(by(number, exit())); got.Code != api.OK {
			t.Fatalf("P22.1: exit of %d: %d", number, got.Code)
		}
	}
	if got := m.Do(spawn()); got.Code != api.ErrProcs || m.State().NextProc != 65536 {
		t.Errorf("P22.1: behind the last number: %+v, %+v", got, m.State())
	}
}

// family makes two objects, whose tokens are of several generations.
func family(t *testing.T) *pair {
	p := made(t, roomy(), words(1, 1, 2, 2, 3, 3, 4, 4, 5, 5, 6, 7, 2, 8))
	p.do(create(1))
	p.do(create(64))
	p.wants(derive(of(2, 1), 31), api.Reply{Cap: of(2, 2)})
	p.wants(derive(of(1, 1), 31), api.Reply{Cap: of(1, 2)})
	p.wants(derive(of(2, 1), 15), api.Reply{Cap: of(2, 3)})
	p.wants(derive(of(1, 1), 31), api.Reply{Cap: of(1, 3)})
	p.wants(derive(of(2, 2), 15), api.Reply{Cap: of(2, 4)})
	p.wants(derive(of(1, 2), 3), api.Reply{Cap: of(1, 4)})
	p.wants(derive(of(2, 3), 1), api.Reply{Cap: of(2, 5)})
	p.wants(derive(of(2, 1), 1), api.Reply{Cap: of(2, 6)}) // 5 is there
	p.wants(derive(of(2, 4), 2), api.Reply{Cap: of(2, 7)})
	return p
}

// P22.1: tokens of several objects and generations, in the order of walk.Down, with parents' places in the whole list.
func TestTokensTold(t *testing.T) {
	p := family(t)
	first := []api.Token{
		{Cap: of(1, 1), Rights: 31, Parent: -1},
		{Cap: of(1, 2), Rights: 31, Parent: 0},
		{Cap: of(1, 4), Rights: 3, Parent: 1},
		{Cap: of(1, 3), Rights: 31, Parent: 0},
	}
	want := append(slices.Clone(first), []api.Token{
		{Cap: of(2, 1), Rights: 31, Parent: -1},
		{Cap: of(2, 2), Rights: 31, Parent: 4},
		{Cap: of(2, 4), Rights: 15, Parent: 5},
		{Cap: of(2, 7), Rights: 2, Parent: 6},
		{Cap: of(2, 3), Rights: 15, Parent: 4},
		{Cap: of(2, 5), Rights: 1, Parent: 8},
		{Cap: of(2, 6), Rights: 1, Parent: 4},
	}...)
	if got := p.m.State().Tokens; !slices.Equal(got, want) {
		t.Errorf("P22.1: %+v, want %+v", got, want)
	}
	p.code(revoke(of(2, 2)), api.OK)
	p.wants(derive(of(2, 3), 7), api.Reply{Cap: of(2, 2)}) // the word is drawn again, elsewhere
	want = append(slices.Clone(first), []api.Token{
		{Cap: of(2, 1), Rights: 31, Parent: -1},
		{Cap: of(2, 3), Rights: 15, Parent: 4},
		{Cap: of(2, 5), Rights: 1, Parent: 5},
		{Cap: of(2, 2), Rights: 7, Parent: 5},
		{Cap: of(2, 6), Rights: 1, Parent: 4},
	}...)
	if got := p.m.State().Tokens; !slices.Equal(got, want) {
		t.Errorf("P22.1: behind a revoke: %+v, want %+v", got, want)
	}
}

// P22.1: what a revoke or destroy takes away, and that all else stays.
func TestRevoked(t *testing.T) {
	for _, x := range []struct {
		takes api.Call
		gone  []api.Cap
	}{
		{revoke(of(2, 4)), []api.Cap{of(2, 4), of(2, 7)}},
		{revoke(of(2, 2)), []api.Cap{of(2, 2), of(2, 4), of(2, 7)}},
		{revoke(of(2, 3)), []api.Cap{of(2, 3), of(2, 5)}},
		{revoke(of(1, 3)), []api.Cap{of(1, 3)}},
		{revoke(of(1, 1)), []api.Cap{of(1, 1), of(1, 2), of(1, 3), of(1, 4)}},
		{destroy(of(1, 3)), []api.Cap{of(1, 1), of(1, 2), of(1, 3), of(1, 4)}},
		{destroy(of(2, 2)), []api.Cap{of(2, 1), of(2, 2), of(2, 3), of(2, 4), of(2, 5), of(2, 6), of(2, 7)}},
	} {
		p := family(t)
		before := p.m.State()
		p.code(x.takes, api.OK)
		after := p.m.State()
		for _, token := range before.Tokens {
			stays := !slices.Contains(x.gone, token.Cap)
			if told := slices.ContainsFunc(after.Tokens, func(o api.Token) bool { return o.Cap == token.Cap && o.Rights == token.Rights }); told != stays {
				t.Errorf("P22.1: behind %+v: is %v live? %v", x.takes, token.Cap, told)
			}
			if code := p.do(read(token.Cap, 0, 0)).Code; (code == api.ErrCap) == stays {
				t.Errorf("P22.1: behind %+v: a read of %v: %d", x.takes, token.Cap, code)
			}
		}
		whole := slices.Contains(x.gone, of(x.takes.Cap.Obj, 1))
		if there := slices.ContainsFunc(after.Objects, func(o api.Object) bool { return o.Id == x.takes.Cap.Obj }); there == whole {
			t.Errorf("P22.1: behind %+v: is its object there? %v", x.takes, there)
		}
		p.wants(create(0), api.Reply{Cap: of(3, 2)})
	}
}
