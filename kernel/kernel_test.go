package kernel_test

import (
	"bytes"
	"math"
	"slices"
	"testing"

	"sesame/api"
	"sesame/kernel"
	"sesame/record"
)

// of gives a capability with a small word.
func of(obj int, word uint64) api.Cap { return api.Cap{Obj: obj, Pass: api.Word{Lo: word}} }

// words gives the words of small numbers.
func words(numbers ...uint64) []api.Word {
	out := make([]api.Word, 0, len(numbers))
	for _, n := range numbers {
		out = append(out, api.Word{Lo: n})
	}
	return out
}

// small: the Config of the chapter's examples.
func small() api.Config {
	return api.Config{Width: 8, Objects: 2, Pages: 3, Entries: 4, Quota: 3, Procs: 2, List: 2, Sets: 1, Ways: 1}
}

// roomy: one in which little is refused.
func roomy() api.Config {
	return api.Config{Width: 8, Objects: 8, Pages: 80, Entries: 32, Quota: 16, Procs: 8, List: 8, Sets: 4, Ways: 2, Knob: 64}
}

// caches gives a Config with other numbers of the cache and the hash, which nobody may see.
func caches(c api.Config) []api.Config {
	var out []api.Config
	for _, n := range [][3]int{{0, 1, 0}, {0, 4, 64}, {1, 1, 64}, {1, 4, 0}, {2, 1, 1}, {16, 4, 64}} {
		c.Sets, c.Ways, c.Knob = n[0], n[1], n[2]
		out = append(out, c)
	}
	return out
}

// world: kernels that are all to answer as one model does.
type world struct {
	t       *testing.T
	c       api.Config
	draws   []api.Word
	kernels []*kernel.Kernel
	m       *model
}

func made(t *testing.T, c api.Config, draws []api.Word) *world {
	t.Helper()
	w := &world{t: t, c: c, draws: draws, m: newModel(c, draws)}
	for _, other := range append(caches(c), c) {
		k, code := kernel.New(other, draws)
		if code != api.OK || k == nil {
			t.Fatalf("P21.1: New(%+v): %d", other, code)
		}
		w.kernels = append(w.kernels, k)
	}
	w.holds("a new kernel")
	return w
}

// loaded gives a world that begins with a state.
func loaded(t *testing.T, c api.Config, draws []api.Word, s api.State) *world {
	t.Helper()
	w := &world{t: t, c: c, draws: draws, m: load(c, draws, s)}
	for _, other := range append(caches(c), c) {
		k, code := kernel.Load(other, draws, s)
		if code != api.OK || k == nil {
			t.Fatalf("P21.5: Load(%+v, .., %+v): %d", other, s, code)
		}
		w.kernels = append(w.kernels, k)
	}
	w.holds("a loaded kernel")
	return w
}

// holds holds each kernel's state against the model's.
func (w *world) holds(what string) {
	w.t.Helper()
	want := w.m.state()
	for at, k := range w.kernels {
		if got := k.State(); !sameState(got, want) {
			w.t.Fatalf("P21.4: %s: kernel %d: %+v, want %+v", what, at, got, want)
		}
	}
}

// do does one call on all, by values and by bytes in turn.
func (w *world) do(c api.Call) api.Reply {
	w.t.Helper()
	before := w.m.state()
	want := w.m.do(c)
	for at, k := range w.kernels {
		if got := answered(k, c, at%2 == 1); !sameReply(got, want) {
			w.t.Fatalf("P21.2: kernel %d: Do(%+v) = %+v, want %+v", at, c, got, want)
		}
	}
	w.holds("behind a call")
	if want.Code != api.OK {
		after := w.m.state()
		if c.Op == api.OpDerive && (want.Code == api.ErrDraws || want.Code == api.ErrTwin) {
			after.Taken = before.Taken
		}
		if !sameState(before, after) {
			w.t.Fatalf("P21.2: refused with %d, %+v has changed %+v to %+v", want.Code, c, before, after)
		}
	}
	return want
}

// answered gives the reply to a call: by bytes, where it has any and that is asked.
func answered(k *kernel.Kernel, c api.Call, asBytes bool) api.Reply {
	b, code := record.Bytes(c)
	if !asBytes || code != api.OK {
		return k.Do(c)
	}
	out := k.Record(b)
	reply, code := record.ParseAnswer(c.Op, out)
	if code != api.OK {
		return api.Reply{Code: -1}
	}
	return reply
}

// wants does one call that must be answered so, as the document says.
func (w *world) wants(c api.Call, want api.Reply) {
	w.t.Helper()
	if got := w.do(c); !sameReply(got, want) {
		w.t.Fatalf("P21.2: Do(%+v) = %+v, want %+v", c, got, want)
	}
}

// code: one call that must be answered by a code alone.
func (w *world) code(c api.Call, want api.Errno) {
	w.t.Helper()
	w.wants(c, api.Reply{Code: want})
}

func create(size int) api.Call         { return api.Call{Op: api.OpCreate, Size: size} }
func destroy(x api.Cap) api.Call       { return api.Call{Op: api.OpDestroy, Cap: x} }
func derive(x api.Cap, r int) api.Call { return api.Call{Op: api.OpDerive, Cap: x, Rights: r} }
func revoke(x api.Cap) api.Call        { return api.Call{Op: api.OpRevoke, Cap: x} }
func read(x api.Cap, off, n int) api.Call {
	return api.Call{Op: api.OpRead, Given: true, Cap: x, Off: off, N: n}
}
func named(obj, off, n int) api.Call {
	return api.Call{Op: api.OpRead, Cap: of(obj, 0), Off: off, N: n}
}
func add(x api.Cap) api.Call      { return api.Call{Op: api.OpAdd, Cap: x} }
func remove(index int) api.Call   { return api.Call{Op: api.OpRemove, Index: index} }
func spawn(gifts ...int) api.Call { return api.Call{Op: api.OpSpawn, Gifts: gifts} }
func exit(by int) api.Call        { return api.Call{Op: api.OpExit, By: by} }

func write(x api.Cap, off int, data ...byte) api.Call {
	return api.Call{Op: api.OpWrite, Given: true, Cap: x, Off: off, Data: data}
}

func writeNamed(obj, off int, data ...byte) api.Call {
	return api.Call{Op: api.OpWrite, Cap: of(obj, 0), Off: off, Data: data}
}

func by(number int, c api.Call) api.Call {
	c.By = number
	return c
}

// P21.1 to P21.4: the chapter's examples 1 to 6.
func TestExamples(t *testing.T) {
	w := made(t, small(), words(5, 261, 5, 7, 9, 11))
	w.wants(create(65), api.Reply{Cap: of(1, 5)})
	if s := w.kernels[0].State(); len(s.Objects) != 1 || s.Objects[0].Id != 1 || !bytes.Equal(s.Objects[0].Bytes, make([]byte, 65)) || !slices.Equal(s.Tokens, []api.Token{{Cap: of(1, 5), Rights: 31, Parent: -1}}) {
		t.Errorf("P21.4: %+v", s)
	}
	w.code(create(65), api.ErrPages)
	w.code(create(4097), api.ErrSize)
	w.code(create(-1), api.ErrSize)
	w.code(by(1, create(0)), api.ErrCaller)
	w.wants(derive(of(1, 5), 3), api.Reply{Cap: of(1, 7)})
	if s := w.kernels[0].State(); s.Taken != 4 || len(s.Tokens) != 2 || s.Tokens[1] != (api.Token{Cap: of(1, 7), Rights: 3, Parent: 0}) {
		t.Errorf("P21.4: %+v", s)
	}
	w.code(derive(of(1, 7), 1), api.ErrRights)
	w.code(derive(of(1, 5), 32), api.ErrRights)
	w.code(derive(of(1, 5), 0), api.ErrRights)
	w.code(derive(of(1, 9), 1), api.ErrCap)
	w.code(write(of(1, 7), 64, 9), api.OK)
	w.code(write(of(1, 7), 65), api.OK)
	w.code(write(of(1, 7), 65, 9), api.ErrRange)
	w.wants(read(of(1, 7), 60, 5), api.Reply{Data: []byte{0, 0, 0, 0, 9}})
	w.code(named(1, 0, 1), api.ErrCap)
	w.code(add(of(1, 263)), api.ErrWidth)
	w.code(add(of(1, 7)), api.OK)
	w.wants(named(1, 0, 1), api.Reply{Data: []byte{0}})
	w.code(add(of(1, 7)), api.OK)
	w.code(add(of(1, 7)), api.ErrList)
	w.wants(spawn(0, 0), api.Reply{Number: 1})
	w.code(spawn(2), api.ErrIndex)
	w.code(spawn(), api.ErrProcs)
	if s := w.kernels[0].State(); len(s.Processes) != 2 || !slices.Equal(s.Processes[1].List, []api.Cap{of(1, 7), of(1, 7)}) {
		t.Errorf("P21.4: %+v", s.Processes)
	}
	w.code(by(1, remove(5)), api.ErrIndex)
	w.code(revoke(of(1, 7)), api.ErrRights)
	w.code(revoke(of(1, 5)), api.OK)
	w.code(read(of(1, 7), 0, 0), api.ErrCap)
	w.code(by(1, named(1, 0, 0)), api.ErrCap)
	w.wants(create(0), api.Reply{Cap: of(2, 9)})
	w.code(api.Call{Op: 11}, api.ErrRecord)
	w.code(api.Call{Op: 5, Size: 1}, api.ErrRecord)
	w.code(api.Call{Op: 1, By: -1}, api.ErrRecord)
	for _, k := range w.kernels {
		if b := k.Record(nil); !bytes.Equal(b, []byte{1, 0}) {
			t.Errorf("P21.3: Record(no byte) = %x", b)
		}
	}
}

// field: a number of a Config, and its bounds.
type field struct {
	name        string
	at          func(*api.Config) *int
	least, most int
}

func fields() []field {
	return []field{
		{"Width", func(c *api.Config) *int { return &c.Width }, 1, 128},
		{"Objects", func(c *api.Config) *int { return &c.Objects }, 1, 64},
		{"Pages", func(c *api.Config) *int { return &c.Pages }, 1, 256},
		{"Entries", func(c *api.Config) *int { return &c.Entries }, 1, 256},
		{"Quota", func(c *api.Config) *int { return &c.Quota }, 1, 256},
		{"Procs", func(c *api.Config) *int { return &c.Procs }, 1, 32},
		{"List", func(c *api.Config) *int { return &c.List }, 1, 32},
		{"Sets", func(c *api.Config) *int { return &c.Sets }, 0, 16},
		{"Ways", func(c *api.Config) *int { return &c.Ways }, 1, 4},
		{"Knob", func(c *api.Config) *int { return &c.Knob }, 0, 64},
	}
}

// P21.1, P21.4, P21.5: which Configs may be, told ahead of too many draws, and these ahead of a wrong state.
func TestConfigs(t *testing.T) {
	fresh := newModel(small(), nil).state()
	for _, f := range fields() {
		for n, want := range map[int]api.Errno{f.least: api.OK, f.most: api.OK, f.least - 1: api.ErrConfig, f.most + 1: api.ErrConfig, math.MinInt: api.ErrConfig, math.MaxInt: api.ErrConfig} {
			c := small()
			*f.at(&c) = n
			for _, many := range []int{0, 4096, 4097} {
				wanted := want
				if want == api.OK && many > 4096 {
					wanted = api.ErrMany
				}
				k, code := kernel.New(c, make([]api.Word, many))
				if code != wanted || (k != nil) != (wanted == api.OK) {
					t.Errorf("P21.1: %s %d, %d draws: %d, want %d", f.name, n, many, code, wanted)
				}
				if k != nil && (k.Config() != c || !sameState(k.State(), fresh)) {
					t.Errorf("P21.4: %s %d: %+v, %+v", f.name, n, k.Config(), k.State())
				}
				k, code = kernel.Load(c, make([]api.Word, many), fresh)
				if code != wanted || (k != nil) != (wanted == api.OK) || k != nil && k.Config() != c {
					t.Errorf("P21.5: %s %d, %d draws: %d, want %d", f.name, n, many, code, wanted)
				}
				if wanted == api.OK {
					wanted = api.ErrImage
				}
				if k, code = kernel.Load(c, make([]api.Word, many), api.State{}); code != wanted || k != nil {
					t.Errorf("P21.5: %s %d, %d draws, no state: %d, want %d", f.name, n, many, code, wanted)
				}
			}
		}
	}
}

// P21.1, P21.4: what a new kernel holds, said by the chapter.
func TestNew(t *testing.T) {
	k, code := kernel.New(small(), words(5))
	if code != api.OK {
		t.Fatalf("P21.1: New: %d", code)
	}
	s := k.State()
	if len(s.Objects) != 0 || len(s.Tokens) != 0 || len(s.Processes) != 1 || s.Processes[0].Number != 0 || len(s.Processes[0].List) != 0 || s.NextId != 1 || s.NextProc != 1 || s.Taken != 0 {
		t.Errorf("P21.1: %+v", s)
	}
}

// P21.1: draws are cut to the width, up to the widest.
func TestWidths(t *testing.T) {
	all := api.Word{Hi: math.MaxUint64, Lo: math.MaxUint64}
	for width := 1; width <= 128; width++ {
		c := roomy()
		c.Width = width
		w := made(t, c, []api.Word{all, all})
		fits := cut(all, width)
		w.wants(create(1), api.Reply{Cap: api.Cap{Obj: 1, Pass: fits}})
		w.code(add(api.Cap{Obj: 1, Pass: fits}), api.OK)
		if width < 128 {
			w.code(add(api.Cap{Obj: 1, Pass: all}), api.ErrWidth)
			w.code(read(api.Cap{Obj: 1, Pass: all}, 0, 0), api.ErrCap)
			s := w.m.state()
			s.Tokens[0].Cap.Pass = all
			if _, code := kernel.Load(c, w.draws, s); code != api.ErrImage {
				t.Errorf("P21.5: width %d, a token with more bits: %d", width, code)
			}
			s = w.m.state()
			s.Processes[0].List[0].Pass = all
			if _, code := kernel.Load(c, w.draws, s); code != api.ErrImage {
				t.Errorf("P21.5: width %d, a list with more bits: %d", width, code)
			}
		}
		loaded(t, c, w.draws, w.m.state())
	}
}

// P21.2: each call's errors, each where those behind it apply too.
func TestOrderCreate(t *testing.T) {
	c := small()
	c.Objects, c.Pages, c.Entries = 1, 1, 1
	w := made(t, c, words(5))
	w.code(by(1, create(-1)), api.ErrCaller)
	w.code(api.Call{Op: api.OpCreate, By: 1, Size: 1 << 31}, api.ErrRecord)
	w.code(create(65), api.ErrPages)
	w.wants(create(64), api.Reply{Cap: of(1, 5)})
	w.code(create(4097), api.ErrSize)
	w.code(create(math.MinInt32), api.ErrSize)
	w.code(create(65), api.ErrFull)
	c.Objects = 2
	w = loaded(t, c, words(5), w.m.state())
	w.code(create(1), api.ErrPages)
	w.code(create(0), api.ErrEntry)
	c.Entries = 2
	w = loaded(t, c, words(5), w.m.state())
	w.code(create(0), api.ErrDraws)
	w = loaded(t, c, words(5, 5), w.m.state())
	w.wants(create(0), api.Reply{Cap: of(2, 5)})
}

// P21.2: likewise a derive's.
func TestOrderDerive(t *testing.T) {
	c := small()
	c.Entries, c.Quota = 2, 2
	w := made(t, c, slices.Repeat(words(5), 12))
	w.do(create(0))
	w.code(by(9, derive(of(1, 6), 0)), api.ErrCaller)
	w.code(derive(of(1, 6), 0), api.ErrCap)
	w.code(derive(of(2, 5), 0), api.ErrCap)
	w.code(derive(of(1, 5+256), 1), api.ErrCap)
	w.code(derive(of(1, 5), 255), api.ErrRights)
	w.code(derive(of(1, 5), 256), api.ErrRecord)
	w.code(derive(of(1, 5), 1), api.ErrTwin)
	if taken := w.m.taken; taken != 10 {
		t.Errorf("P21.2: a twin has taken %d", taken)
	}
	w.code(derive(of(1, 5), 1), api.ErrDraws)
	w.code(derive(of(1, 5), 1), api.ErrDraws)
	w.code(derive(of(1, 5), 0), api.ErrRights)

	w = made(t, c, words(5, 6))
	w.do(create(0))
	w.wants(derive(of(1, 5), 30), api.Reply{Cap: of(1, 6)})
	w.code(derive(of(1, 6), 1), api.ErrRights)
	w.code(derive(of(1, 6), 2), api.ErrQuota) // the catalogue is full too, and the draws are at their end
	c.Quota = 3
	w = loaded(t, c, words(5, 6), w.m.state())
	w.code(derive(of(1, 6), 2), api.ErrEntry)
	c.Entries = 3
	w = loaded(t, c, words(5, 6), w.m.state())
	w.code(derive(of(1, 6), 2), api.ErrDraws)
	w = loaded(t, c, words(5, 6, 5, 6, 7), w.m.state())
	w.wants(derive(of(1, 6), 2), api.Reply{Cap: of(1, 7)})
}

// P21.2: each right by itself lets just its own call through.
func TestRights(t *testing.T) {
	for rights := 1; rights <= 31; rights++ {
		calls := map[int]api.Call{
			api.Read:    read(of(1, 6), 0, 1),
			api.Write:   write(of(1, 6), 0, 7),
			api.Derive:  derive(of(1, 6), rights),
			api.Revoke:  revoke(of(1, 6)),
			api.Destroy: destroy(of(1, 6)),
		}
		for one, c := range calls {
			w := made(t, roomy(), words(5, 6, 7))
			w.do(create(1))
			w.wants(derive(of(1, 5), rights), api.Reply{Cap: of(1, 6)})
			want := api.ErrRights
			if right(rights, one) {
				want = api.OK
			}
			if got := w.do(c); got.Code != want {
				t.Errorf("P21.2: rights %d, %+v: %d, want %d", rights, c, got.Code, want)
			}
			w.do(add(of(1, 6)))
			w.do(named(1, 0, 1))
			w.do(writeNamed(1, 0, 8))
		}
	}
}

// P21.2: reads and writes at the edges of an object, given and named.
func TestRange(t *testing.T) {
	for _, size := range []int{0, 1, 63, 64, 65, 1023, 1024, 1025, 4096} {
		w := made(t, roomy(), words(5))
		w.do(create(size))
		w.do(add(of(1, 5)))
		offs := []int{math.MinInt32, -1, 0, 1, size - 1024, size - 1, size, size + 1, math.MaxInt32}
		for _, off := range offs {
			for _, n := range []int{math.MinInt32, -1, 0, 1, 63, 64, size - off, size - off + 1, 1024, 1025, math.MaxInt32} {
				w.do(read(of(1, 5), off, n))
				w.do(named(1, off, n))
				if n >= 0 && n <= 1026 {
					w.do(write(of(1, 5), off, bytes.Repeat([]byte{byte(n)}, n)...))
					w.do(writeNamed(1, off, bytes.Repeat([]byte{byte(off)}, n)...))
				}
			}
		}
	}
	w := made(t, roomy(), words(5))
	w.do(create(4096))
	w.code(read(of(1, 5), 3073, 1024), api.ErrRange)
	w.code(write(of(1, 5), 0, make([]byte, 1025)...), api.ErrRange)
	w.code(write(of(1, 5), 0, make([]byte, 1026)...), api.ErrRecord)
	w.code(read(of(1, 6), -1, 1), api.ErrCap)
	w.code(read(of(1, 5), math.MinInt32, math.MaxInt32), api.ErrRange)
}

// P21.2: what is named is looked for in the caller's list, in its order, and in no other's.
func TestNamed(t *testing.T) {
	w := made(t, roomy(), words(5, 6, 7, 8))
	w.do(create(1))
	w.do(create(1))
	w.wants(derive(of(1, 5), api.Read), api.Reply{Cap: of(1, 7)})
	w.do(spawn())
	for _, x := range []api.Cap{of(1, 99), of(2, 6), of(1, 7)} {
		w.do(add(x))
	}
	w.code(writeNamed(1, 0, 1), api.ErrRights)
	w.wants(named(1, 0, 1), api.Reply{Data: []byte{0}})
	w.code(by(1, named(1, 0, 1)), api.ErrCap)
	w.code(named(3, 0, 1), api.ErrCap)
	w.code(named(1, 0, 2), api.ErrRange)
	w.do(add(of(1, 5)))
	w.code(writeNamed(1, 0, 1), api.OK)
	w.wants(named(1, 0, 1), api.Reply{Data: []byte{1}})
	w.code(writeNamed(2, 0, 2), api.OK)
	w.wants(read(of(2, 6), 0, 1), api.Reply{Data: []byte{2}})
	w.code(revoke(of(1, 5)), api.OK)
	w.code(named(1, 0, 1), api.ErrCap)
	w.wants(named(2, 0, 1), api.Reply{Data: []byte{2}})
}
