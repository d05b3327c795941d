package image_test

import (
	"bytes"
	"math"
	"math/rand"
	"reflect"
	"slices"
	"testing"

	"sesame/api"
	"sesame/image"
	"sesame/kernel"
)

// words gives the words of small numbers.
func words(numbers ...uint64) []api.Word {
	out := make([]api.Word, 0, len(numbers))
	for _, n := range numbers {
		out = append(out, api.Word{Lo: n})
	}
	return out
}

// made gives a kernel.
func made(t testing.TB, c api.Config, draws []api.Word) *kernel.Kernel {
	t.Helper()
	k, code := kernel.New(c, draws)
	if code != api.OK {
		t.Fatalf("P21.1: New(%+v): %d", c, code)
	}
	return k
}

// anyConfig gives a Config of small numbers, so that calls meet each bound.
func anyConfig(rng *rand.Rand) api.Config {
	widths := []int{1, 2, 3, 4, 8, 63, 64, 65, 127, 128}
	return api.Config{
		Width: widths[rng.Intn(len(widths))], Objects: 1 + rng.Intn(4), Pages: 1 + rng.Intn(6), Entries: 1 + rng.Intn(12), Quota: 1 + rng.Intn(8),
		Procs: 1 + rng.Intn(4), List: 1 + rng.Intn(4), Sets: rng.Intn(3), Ways: 1 + rng.Intn(4), Knob: []int{0, 1, 64}[rng.Intn(3)],
	}
}

func anyDraws(rng *rand.Rand, most int) []api.Word {
	out := make([]api.Word, rng.Intn(most))
	for at := range out {
		out[at] = api.Word{Hi: uint64(rng.Intn(2)) << 63, Lo: uint64(rng.Intn(12))}
	}
	return out
}

// anyCap gives a capability that is live, or in a list, or none at all.
func anyCap(rng *rand.Rand, s api.State) api.Cap {
	if len(s.Tokens) > 0 && rng.Intn(8) > 0 {
		return s.Tokens[rng.Intn(len(s.Tokens))].Cap
	}
	return of(rng.Intn(4), uint64(rng.Intn(12)))
}

func anyCall(rng *rand.Rand, s api.State) api.Call {
	c := api.Call{Op: []int{1, 1, 1, 2, 3, 3, 3, 3, 4, 5, 6, 6, 7, 7, 8, 9, 9, 10, 11}[rng.Intn(19)]}
	if len(s.Processes) > 0 {
		c.By = s.Processes[rng.Intn(len(s.Processes))].Number
	}
	switch c.Op {
	case api.OpCreate:
		c.Size = rng.Intn(200) - 3
	case api.OpDerive:
		c.Cap, c.Rights = anyCap(rng, s), []int{31, 31, 15, 7, 5, 1, rng.Intn(33)}[rng.Intn(7)]
	case api.OpDestroy, api.OpRevoke, api.OpAdd:
		c.Cap = anyCap(rng, s)
	case api.OpRead, api.OpWrite:
		c.Cap, c.Given, c.Off = anyCap(rng, s), rng.Intn(2) == 0, rng.Intn(100)
		if !c.Given {
			c.Cap.Pass = api.Word{}
		}
		if c.Op == api.OpRead {
			c.N = rng.Intn(40)
		} else {
			c.Data = pattern(rng.Intn(40))
		}
	case api.OpRemove:
		c.Index = rng.Intn(3)
	case api.OpSpawn:
		for range rng.Intn(3) {
			c.Gifts = append(c.Gifts, rng.Intn(2))
		}
	}
	return c
}

// P23.4, P23.5: behind whatever calls a kernel's state keeps the rules; saved and loaded, it goes on as it would have.
func TestRuns(t *testing.T) {
	for seed := range int64(150) {
		rng := rand.New(rand.NewSource(seed))
		c, draws := anyConfig(rng), anyDraws(rng, 60)
		k := made(t, c, draws)
		var loaded []*kernel.Kernel
		for range 120 {
			s := k.State()
			if got := image.Check(c, s, len(draws)); got != 0 {
				t.Fatalf("P23.5: seed %d: a kernel's own state breaks rule %d: %+v", seed, got, s)
			}
			b := image.Save(k)
			if want := plainBytes(c, s); !bytes.Equal(b, want) {
				t.Fatalf("P23.4: seed %d: Save: %x, want %x", seed, b, want)
			}
			if rng.Intn(20) == 0 || len(loaded) == 0 {
				l, code := image.Load(b, draws)
				if code != api.OK || l == nil || l.Config() != c || !sameState(l.State(), s) {
					t.Fatalf("P23.4: seed %d: Load: %d", seed, code)
				}
				loaded = append(loaded, l)
			}
			call := anyCall(rng, s)
			want := k.Do(call)
			after := image.Save(k)
			for _, l := range loaded {
				if got := l.Do(call); !reflect.DeepEqual(got, want) {
					t.Fatalf("P23.5: seed %d: %+v: %+v, want %+v", seed, call, got, want)
				}
				if !bytes.Equal(image.Save(l), after) {
					t.Fatalf("P23.5: seed %d: behind %+v the loaded one's Save is another", seed, call)
				}
			}
		}
	}
}

// P23.4: which draws a Load takes.
func TestLoadDraws(t *testing.T) {
	c, draws := example(), words(5, 6, 7)
	k := made(t, c, draws)
	k.Do(api.Call{Op: api.OpCreate, Size: 70})
	k.Do(api.Call{Op: api.OpDerive, Cap: of(1, 5), Rights: 5})
	b := image.Save(k)
	for many, want := range map[int]api.Errno{0: api.ErrImage, 1: api.ErrImage, 2: api.OK, 3: api.OK} {
		if l, code := image.Load(b, draws[:many]); code != want || (l != nil) != (want == api.OK) {
			t.Errorf("P23.4: %d draws: %v, %d, want %d", many, l, code, want)
		}
	}
	many := make([]api.Word, api.MaxDraws+1)
	if l, code := image.Load(b, many); code != api.ErrImage || l != nil {
		t.Errorf("P23.4: 4097 draws: %v, %d", l, code)
	}
	if l, code := image.Load(b, many[:api.MaxDraws]); code != api.OK || l == nil {
		t.Errorf("P23.4: 4096 draws: %v, %d", l, code)
	}
	for _, odd := range [][]byte{nil, {}, b[:len(b)-1], append(bytes.Clone(b), 0), make([]byte, 51)} {
		for _, draws := range [][]api.Word{nil, draws, many} {
			if l, code := image.Load(odd, draws); code != api.ErrImage || l != nil {
				t.Errorf("P23.4: bytes that are no image: %v, %d", l, code)
			}
		}
	}
	l, _ := image.Load(b, words(1, 2, 9))
	if got := l.Do(api.Call{Op: api.OpDerive, Cap: of(1, 6), Rights: 1}); got.Cap != of(1, 9) {
		t.Errorf("P23.4: the draws behind those that were taken: %+v", got)
	}
	s := fresh()
	s.Taken = api.MaxDraws
	if l, code := image.Load(laid(t, c, s), many[:api.MaxDraws]); code != api.OK || l == nil || l.State().Taken != api.MaxDraws {
		t.Errorf("P23.4: all draws are taken: %v, %d", l, code)
	}
}

// P23.4: a state at the bounds is loaded, and goes on.
func TestLoadFull(t *testing.T) {
	draws := make([]api.Word, api.MaxDraws)
	k, code := image.Load(laid(t, tight(), full()), draws)
	if code != api.OK || !sameState(k.State(), full()) || k.Config() != tight() {
		t.Fatalf("P23.4: %d", code)
	}
	if got := k.Do(api.Call{Op: api.OpRead, By: 4, Cap: api.Cap{Obj: 2}, Off: 3000, N: 1024}); !bytes.Equal(got.Data, pattern(4096)[3000:4024]) {
		t.Errorf("P23.4: %+v", got)
	}
	for call, want := range map[int]api.Errno{api.OpCreate: api.ErrFull, api.OpSpawn: api.ErrProcs} {
		if got := k.Do(api.Call{Op: call}); got.Code != want {
			t.Errorf("P23.4: call %d: %d, want %d", call, got.Code, want)
		}
	}
}

// altered changes something of a state, or of a Config, somewhere.
func altered(rng *rand.Rand, c *api.Config, s *api.State) {
	odd := []int{-1, 0, 1, 2, 3, 4, 5, 31, 32, 64, 255, 256, 65535, 65536, 65537, api.MaxId, api.MaxId + 1, api.MaxId + 2, math.MinInt, math.MaxInt}
	n := odd[rng.Intn(len(odd))]
	switch rng.Intn(14) {
	case 0:
		*numbers(c)[rng.Intn(10)] = n
	case 1:
		s.NextId = n
	case 2:
		s.NextProc = n
	case 3:
		s.Taken = n
	case 4:
		swapped(rng, s.Objects)
	case 5:
		swapped(rng, s.Tokens)
	case 6:
		swapped(rng, s.Processes)
	case 7:
		s.Objects, s.Tokens = shortened(rng, s.Objects), shortened(rng, s.Tokens)
	case 8:
		s.Tokens = shortened(rng, s.Tokens)
	default:
		alteredItem(rng, s, n)
	}
}

// alteredItem changes a number of one of a state's items, if there is one.
func alteredItem(rng *rand.Rand, s *api.State, n int) {
	switch kind := rng.Intn(5); {
	case kind == 0 && len(s.Objects) > 0:
		s.Objects[rng.Intn(len(s.Objects))].Id = n
	case kind == 1 && len(s.Processes) > 0:
		p := &s.Processes[rng.Intn(len(s.Processes))]
		p.List = append(p.List, of(n, uint64(rng.Intn(5))))
	case kind == 2 && len(s.Processes) > 0:
		s.Processes[rng.Intn(len(s.Processes))].Number = n
	case len(s.Tokens) > 0:
		x := &s.Tokens[rng.Intn(len(s.Tokens))]
		switch rng.Intn(5) {
		case 0:
			x.Cap.Obj = n
		case 1:
			x.Cap.Pass = api.Word{Lo: uint64(rng.Intn(5))}
		case 2:
			x.Rights = rng.Intn(33)
		default:
			x.Parent = rng.Intn(len(s.Tokens)+2) - 1
		}
	}
}

func swapped[T any](rng *rand.Rand, l []T) {
	if len(l) > 1 {
		at := rng.Intn(len(l) - 1)
		l[at], l[at+1] = l[at+1], l[at]
	}
}

func shortened[T any](rng *rand.Rand, l []T) []T {
	if len(l) == 0 {
		return l
	}
	at := rng.Intn(len(l))
	return slices.Delete(l, at, at+1)
}

// P23.1, P23.5, W6: of states that were altered Check tells what the rules' words tell; a kernel takes just those that keep them.
func TestAltered(t *testing.T) {
	told := map[int]int{}
	for seed := range int64(400) {
		rng := rand.New(rand.NewSource(seed))
		c, draws := anyConfig(rng), anyDraws(rng, 60)
		k := made(t, c, draws)
		for range 60 {
			k.Do(anyCall(rng, k.State()))
		}
		for range 60 {
			oddC, oddS := c, cloned(k.State())
			for range 1 + rng.Intn(2) {
				altered(rng, &oddC, &oddS)
			}
			want := plainCheck(oddC, oddS, len(draws))
			told[want]++
			if got := image.Check(oddC, oddS, len(draws)); got != want {
				t.Fatalf("P23.1: seed %d: %d, want %d: %+v, %+v", seed, got, want, oddC, oddS)
			}
			if l, code := kernel.Load(oddC, draws, oddS); (code == api.OK) != (want == 0) || (l != nil) != (want == 0) {
				t.Fatalf("W6: seed %d: rule %d, but a kernel answers %d: %+v, %+v", seed, want, code, oddC, oddS)
			}
			holdsBytes(t, oddC, oddS)
		}
	}
	for rule := range 9 {
		if told[rule] < 20 {
			t.Errorf("rule %d was told %d times alone", rule, told[rule])
		}
	}
}

// holdsBytes holds Bytes and Parse of a state that may break rules against the form.
func holdsBytes(t *testing.T, c api.Config, s api.State) {
	t.Helper()
	if plainCheck(c, s, api.MaxDraws) == 0 {
		roundTrip(t, c, s)
		return
	}
	if b, code := image.Bytes(c, s); code != api.ErrImage || len(b) != 0 {
		t.Fatalf("P23.2: %x, %d: %+v, %+v", b, code, c, s)
	}
	b := plainBytes(c, s)
	if c, s, code := image.Parse(b); code == api.OK && !bytes.Equal(plainBytes(c, s), b) {
		t.Fatalf("P23.5: %x is taken for %+v, %+v", b, c, s)
	}
}

// P23.3, P23.5: bytes that were altered are refused, or are the bytes of what they are taken for, which keeps the rules.
func TestAlteredBytes(t *testing.T) {
	taken := 0
	for seed := range int64(60) {
		rng := rand.New(rand.NewSource(seed))
		c, draws := anyConfig(rng), anyDraws(rng, 60)
		k := made(t, c, draws)
		for range 60 {
			k.Do(anyCall(rng, k.State()))
		}
		whole := image.Save(k)
		for range 500 {
			b := bytes.Clone(whole)
			for range 1 + rng.Intn(2) {
				b[rng.Intn(len(b))] = []byte{0, 1, 2, 255, byte(rng.Intn(256))}[rng.Intn(5)]
			}
			if rng.Intn(8) == 0 {
				b = slices.Delete(b, rng.Intn(len(b)), len(b))
			}
			c, s, code := image.Parse(b)
			if code != api.OK {
				if code != api.ErrImage || c != (api.Config{}) || !isZero(s) {
					t.Fatalf("P23.3: %x: %+v, %+v, %d", b, c, s, code)
				}
				continue
			}
			taken++
			if got := plainCheck(c, s, api.MaxDraws); got != 0 {
				t.Fatalf("P23.3: seed %d: %x is taken, but breaks rule %d", seed, b, got)
			}
			if !bytes.Equal(laid(t, c, s), b) {
				t.Fatalf("P23.5: seed %d: %x is taken for %x", seed, b, laid(t, c, s))
			}
		}
	}
	if taken < 100 {
		t.Errorf("only %d were taken", taken)
	}
}

// P23.3: bytes of any kind are refused or are some state's; none makes Parse panic.
func TestAnyBytes(t *testing.T) {
	rng := rand.New(rand.NewSource(23))
	head := laid(t, example(), fresh())
	for range 20000 {
		b := make([]byte, rng.Intn(90))
		rng.Read(b)
		copy(b, head[:rng.Intn(len(head))])
		c, s, code := image.Parse(b)
		if code == api.OK && !bytes.Equal(plainBytes(c, s), b) || code != api.OK && (code != api.ErrImage || c != (api.Config{}) || !isZero(s)) {
			t.Fatalf("P23.3: %x: %+v, %+v, %d", b, c, s, code)
		}
	}
}
