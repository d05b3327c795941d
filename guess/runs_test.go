package guess_test

import (
	"fmt"
	"math/rand"
	"slices"
	"testing"

	"sesame/api"
	"sesame/guess"
)

// The ops that runs are made of: what takes away comes rarely, so that much is there to be guessed.
var (
	often  = []int{1, 3, 3, 5, 5, 5, 5, 6, 6, 6, 7, 7, 7, 9, 9}
	rarely = []int{2, 4, 4, 8, 10, 0, 11}
)

// chance makes lists of calls with their history.
type chance struct {
	*rand.Rand
	c      api.Config
	draws  []api.Word
	issued []api.Cap
	first2 int // with which of the two calls begin that a guess needs: create, spawn
	*history
}

// anyChance begins a list of calls. Narrow: its draws are few and small enough for their lists to be counted.
func anyChance(t testing.TB, seed int64, narrow int) *chance {
	rng := rand.New(rand.NewSource(seed))
	c := api.Config{
		Width: any1(rng, []int{2, 3, 3, 8, 64, 128}), Objects: 1 + rng.Intn(4), Pages: 2 + rng.Intn(8), Entries: 2 + rng.Intn(12), Quota: 2 + rng.Intn(8),
		Procs: any1(rng, []int{2, 3, 4, 6}), List: 1 + rng.Intn(5), Sets: rng.Intn(3), Ways: 1 + rng.Intn(4), Knob: any1(rng, []int{0, 1, 64}),
	}
	draws := make([]api.Word, 60)
	if narrow > 0 {
		c.Width = 1 + rng.Intn(min(4, narrow))
		draws = draws[:rng.Intn(narrow/c.Width+1)]
	}
	for at := range draws {
		draws[at] = api.Word{Lo: uint64(rng.Intn(12))}
	}
	return &chance{rng, c, draws, nil, rng.Intn(2), told(t, c, draws, nil)}
}

func any1[T any](rng *rand.Rand, list []T) T { return list[rng.Intn(len(list))] }

// known gives all live capabilities that a process has been told.
func (r *chance) known(proc int) []api.Cap {
	var out []api.Cap
	for _, token := range r.m.State().Tokens {
		if r.way(len(r.calls), proc, token.Cap) != 0 {
			out = append(out, token.Cap)
		}
	}
	return out
}

// anyCap gives one that its caller was told, mostly.
func (r *chance) anyCap(caller int) api.Cap {
	if known := r.known(caller); len(known) > 0 && r.Intn(4) > 0 {
		return any1(r.Rand, known)
	}
	if len(r.issued) > 0 && r.Intn(4) > 0 {
		return any1(r.Rand, r.issued)
	}
	return of(1+r.Intn(2), uint64(r.Intn(1<<min(3, r.c.Width))))
}

// anyData gives bytes that hold capabilities, the writer's and others'.
func (r *chance) anyData(caller int) []byte {
	var out []byte
	for range 1 + r.Intn(3) {
		out = append(out, make([]byte, r.Intn(4))...)
		x := r.anyCap(caller)
		if tokens := r.m.State().Tokens; len(tokens) > 0 && r.Intn(2) == 0 {
			x = any1(r.Rand, tokens).Cap
		}
		out = append(out, laid(x)...)
	}
	if r.Intn(5) == 0 {
		out = out[:r.Intn(len(out)+1)]
	}
	return out
}

// anyMove lets a call read or write. Named: an object of the caller's list, mostly.
func (r *chance) anyMove(c *api.Call, list []api.Cap) {
	c.Cap, c.Given = r.anyCap(c.By), r.Intn(2) == 0
	if !c.Given {
		if len(list) > 0 && r.Intn(6) > 0 {
			c.Cap = any1(r.Rand, list)
		}
		c.Cap.Pass = api.Word{}
	}
	if c.Op == api.OpRead {
		c.Off, c.N = any1(r.Rand, []int{0, 0, 0, r.Intn(20)}), any1(r.Rand, []int{100, 100, 100, 80, r.Intn(60), 1000})
	} else {
		c.Off, c.Data = r.Intn(16), r.anyData(c.By)
	}
}

func (r *chance) anyCall() api.Call {
	c := api.Call{Op: any1(r.Rand, slices.Concat(often, often, often, rarely)), By: r.Intn(4)}
	all := r.m.State().Processes
	var list []api.Cap
	if len(all) > 0 && r.Intn(20) > 0 {
		p := any1(r.Rand, all)
		c.By, list = p.Number, p.List
	}
	if c.Op == api.OpExit && len(all) == 1 {
		c.Op = api.OpSpawn // the last one's exit would end the run
	}
	switch c.Op {
	case api.OpCreate:
		c.Size = any1(r.Rand, []int{100, 100, 100, 128, 128, 60})
	case api.OpDerive:
		c.Cap, c.Rights = r.anyCap(c.By), any1(r.Rand, []int{31, 31, 15, 7, 3, 1, r.Intn(33)})
	case api.OpDestroy, api.OpRevoke, api.OpAdd:
		c.Cap = r.anyCap(c.By)
	case api.OpRead, api.OpWrite:
		r.anyMove(&c, list)
	case api.OpRemove:
		c.Index = r.Intn(3)
	case api.OpSpawn:
		for range r.Intn(4) {
			c.Gifts = append(c.Gifts, r.Intn(max(2, len(list))))
		}
	}
	return c
}

// guesses tells whether a call that is to come would let a guess in.
func (r *chance) guesses(t testing.TB, c api.Call) bool {
	h := told(t, r.c, r.draws, append(slices.Clone(r.calls), c))
	return h.letsIn(len(r.calls))
}

// next does a call by chance. Honest: but one that lets no guess in.
func (r *chance) next(t testing.TB, honest bool) {
	c := r.anyCall()
	if len(r.calls) < 2 && r.Intn(10) > 0 {
		c = []api.Call{create(100), spawn()}[(len(r.calls)+r.first2)%2]
	}
	if honest && r.guesses(t, c) {
		return
	}
	at := r.do(c)
	if x := r.replies[at].Cap; x != (api.Cap{}) && !slices.Contains(r.issued, x) {
		r.issued = append(r.issued, x)
	}
}

// seen counts what runs must have, to be worth anything.
type seen struct {
	in    map[int]int // guesses, by the Op; of named calls, by the Op and 100
	told  map[int]int // what was validated and told, by the Op that told it
	codes map[api.Errno]int
}

func (n *seen) count(h *history, at int) {
	x, validated := h.validated(at)
	c, way := h.calls[at], h.way(at, h.calls[at].By, x)
	switch {
	case !validated:
	case way != 0:
		n.told[way]++
	default:
		op := c.Op
		if (op == api.OpRead || op == api.OpWrite) && !c.Given {
			op += 100
		}
		n.in[op]++
		n.codes[h.replies[at].Code]++
	}
}

// enough tells whether each of some keys was counted so often.
func enough[K comparable](counts map[K]int, least int, keys ...K) bool {
	return !slices.ContainsFunc(keys, func(key K) bool { return counts[key] < least })
}

// P26.2: of runs of all kinds.
func TestRuns(t *testing.T) {
	n := seen{map[int]int{}, map[int]int{}, map[api.Errno]int{}}
	for seed := range int64(1500) {
		r := anyChance(t, seed, 0)
		for range 30 {
			r.next(t, false)
		}
		holdsIn(t, r.c, r.draws, r.calls)
		for at := range r.calls {
			if r.letsIn(at) {
				holdsIn(t, r.c, r.draws, r.calls[:at])
				n.count(r.history, at)
				break
			}
			n.count(r.history, at)
		}
	}
	if !enough(n.in, 10, 2, 3, 4, 5, 6, 105, 106) || !enough(n.told, 5, 1, 3, 5, 9) || !enough(n.codes, 3, api.OK, api.ErrRange, api.ErrQuota, api.ErrEntry) {
		t.Errorf("the runs have but %+v", n)
	}
}

// P26.2: behind a run that lets no guess in, of each process, live capability and call that may come next.
func TestHonestRuns(t *testing.T) {
	n := seen{map[int]int{}, map[int]int{}, map[api.Errno]int{}}
	for seed := range int64(150) {
		r := anyChance(t, 5000+seed, 0)
		for range 40 {
			r.next(t, true)
		}
		if holdsIn(t, r.c, r.draws, r.calls) {
			t.Fatalf("P26.2: seed %d: an honest run", seed)
		}
		s := r.m.State()
		for _, p := range s.Processes {
			var nexts []api.Call
			for _, token := range s.Tokens {
				x := token.Cap
				nexts = append(nexts, read(x, 0, 0), write(x, 0, nil), destroy(x), revoke(x), derive(x, 1), readNamed(x.Obj, 0, 0), writeNamed(x.Obj, 0, nil))
			}
			for _, c := range nexts {
				calls := append(slices.Clone(r.calls), by(p.Number, c))
				holdsIn(t, r.c, r.draws, calls)
				n.count(told(t, r.c, r.draws, calls), len(r.calls))
			}
		}
	}
	if !enough(n.in, 100, 2, 3, 4, 5, 6, 105, 106) || !enough(n.told, 30, 1, 3, 5, 9) {
		t.Errorf("the runs have but %+v", n)
	}
}

// P26.2, P26.3: the cache's and the hash's numbers show nothing.
func TestCaches(t *testing.T) {
	for seed := range int64(100) {
		r := anyChance(t, 9000+seed, 4)
		for range 12 {
			r.next(t, false)
		}
		for _, l := range [][3]int{{0, 1, 0}, {1, 1, 64}, {1, 4, 0}, {16, 4, 64}} {
			r.c.Sets, r.c.Ways, r.c.Knob = l[0], l[1], l[2]
			holdsIn(t, r.c, r.draws, r.calls)
			holdsCount(t, r.c, r.calls, len(r.draws))
		}
	}
}

// P26.3, P26.5: counted one by one, and never above the bound.
func TestCounts(t *testing.T) {
	some, all := 0, 0
	for seed := range int64(400) {
		r := anyChance(t, 20000+seed, 6)
		for range 12 {
			r.next(t, seed%2 == 0)
		}
		n := len(r.draws)
		switch in := holdsCount(t, r.c, r.calls, n); {
		case in == 1<<(n*r.c.Width):
			all++
		case in > 0:
			some++
		}
	}
	if some < 100 || all < 5 {
		t.Errorf("of the counts %d are of some lists, %d of all", some, all)
	}
}

// P26.3, P26.5: at the greatest numbers of lists, and of calls.
func TestGreatCounts(t *testing.T) {
	for width, n := range map[int]int{1: 12, 2: 6, 3: 4, 4: 3, 6: 2, 12: 1} {
		c := roomy()
		c.Width = width
		calls := []api.Call{create(64), spawn(), derive(of(1, 1), 31), create(0)}
		for word := range uint64(8) {
			calls = append(calls, by(1, read(of(1+int(word%2), word/2), 0, 1)))
		}
		if in := holdsCount(t, c, calls, n); in == 0 {
			t.Errorf("P26.3: width %d: no guess is let in", width)
		}
	}
	// One word of each: the bound is reached, at each width.
	for width := 1; width <= 12; width++ {
		c := roomy()
		c.Width = width
		calls := []api.Call{spawn(), create(0), by(1, read(of(1, 1<<width-1), 0, 0))}
		count(t, fmt.Sprint("width ", width), c, calls, 1, 1<<width, 1)
		calls[2] = by(1, read(of(1, 1<<width), 0, 0))
		count(t, fmt.Sprint("too wide for ", width), c, calls, 1, 1<<width, 0)
	}
}

// P26.5: with more passwords more is let in, up to all lists; passwords that are brought but not used count for the bound alone.
func TestManyPasswords(t *testing.T) {
	for q := range 11 {
		calls := []api.Call{spawn(), create(0)}
		for word := range q {
			calls = append(calls, by(1, read(of(1, uint64(word)), 0, 0)))
		}
		c := small()
		c.Width = 3
		count(t, fmt.Sprint(q, " reads"), c, calls, 2, 64, 8*min(q, 8))
		for at := range calls[2:] {
			calls[2+at] = by(1, add(calls[2+at].Cap))
		}
		c.List = 16
		count(t, fmt.Sprint(q, " adds"), c, calls, 2, 64, 0)
	}
}

// A long list of calls ends soon, and keeps no more than what is told of what its calls bring.
func TestLong(t *testing.T) {
	c := roomy()
	c.List = 32
	calls := []api.Call{create(4096), spawn()}
	for range 32 {
		calls = append(calls, add(of(1, 5)))
	}
	for at := range 60000 {
		data := slices.Repeat([]byte{byte(at), byte(at >> 8), 3}, 341)
		calls = append(calls, []api.Call{write(of(1, 5), at%3000, data), read(of(1, 5), at%3000, 1024), readNamed(1, at%4000, 9), writeNamed(1, at%4000, []byte{1})}[at%4])
	}
	if got, code := guess.In(c, words(5), calls); got || code != api.OK {
		t.Errorf("P26.2: a long run: %v, %d", got, code)
	}
	calls = append(calls, by(1, read(of(1, 5), 0, 0)))
	if got, code := guess.In(c, words(5), calls); !got || code != api.OK {
		t.Errorf("P26.2: a guess behind a long run: %v, %d", got, code)
	}
}
