package apart_test

import (
	"math/rand"
	"slices"
	"testing"

	"sesame/apart"
	"sesame/api"
	"sesame/kernel"
)

// The ops that runs are made of: what takes away comes rarely, so that much is there to be seen.
var (
	often  = []int{1, 3, 3, 5, 5, 5, 5, 5, 6, 6, 6, 6, 7, 7, 9, 9}
	rarely = []int{2, 4, 4, 8, 10, 0, 11}
)

// chance makes lists of calls with a kernel beside it, which tells what is there.
type chance struct {
	*rand.Rand
	c      api.Config
	draws  []api.Word
	k      *kernel.Kernel
	issued []api.Cap
	calls  []api.Call
}

func anyChance(seed int64) *chance {
	rng := rand.New(rand.NewSource(seed))
	c := api.Config{
		Width: any1(rng, []int{1, 2, 3, 8, 8, 8, 64, 128}), Objects: 1 + rng.Intn(4), Pages: 1 + rng.Intn(8), Entries: 2 + rng.Intn(12), Quota: 1 + rng.Intn(8),
		Procs: any1(rng, []int{1, 2, 3, 3, 4, 6}), List: 1 + rng.Intn(4), Sets: rng.Intn(3), Ways: 1 + rng.Intn(4), Knob: any1(rng, []int{0, 1, 64}),
	}
	draws := make([]api.Word, any1(rng, []int{3, 20, 80, 80, 80}))
	for at := range draws {
		draws[at] = api.Word{Hi: uint64(rng.Intn(2)), Lo: uint64(rng.Intn(20))}
	}
	k, _ := kernel.New(c, draws)
	return &chance{Rand: rng, c: c, draws: draws, k: k}
}

func any1[T any](rng *rand.Rand, list []T) T { return list[rng.Intn(len(list))] }

// anyCap gives one that is live, mostly.
func (r *chance) anyCap(s api.State) api.Cap {
	if len(s.Tokens) > 0 && r.Intn(8) > 0 {
		return any1(r.Rand, s.Tokens).Cap
	}
	if len(r.issued) > 0 && r.Intn(3) > 0 {
		return any1(r.Rand, r.issued)
	}
	return of(r.Intn(3), uint64(r.Intn(4)))
}

// anyPlace lets a call read or write, given or named, mostly within the object's size.
func (r *chance) anyPlace(c *api.Call, x api.Cap) {
	c.Cap, c.Given, c.Off = x, r.Intn(3) > 0, r.Intn(18)
	if !c.Given {
		c.Cap.Pass = api.Word{}
	}
	if r.Intn(30) == 0 {
		c.Off = any1(r.Rand, []int{-1, 1 << 30, 1 << 31, 1 << 62})
	}
	n := any1(r.Rand, []int{0, 1, 4, 9, 9, 16, 16, 22})
	if c.Op == api.OpRead {
		c.N = n
		return
	}
	c.Data = make([]byte, n)
	r.Read(c.Data)
}

func (r *chance) anyCall() api.Call {
	s := r.k.State()
	c := api.Call{Op: any1(r.Rand, slices.Concat(often, often, often, rarely)), By: any1(r.Rand, []int{0, 1, 2, 5, -1, 65536})}
	if len(s.Processes) > 0 && r.Intn(20) > 0 {
		c.By = any1(r.Rand, s.Processes).Number
	}
	if c.Op == api.OpExit && len(s.Processes) == 1 && r.Intn(10) > 0 {
		c.Op = api.OpSpawn // the last one's exit would end the run
	}
	x := r.anyCap(s)
	switch c.Op {
	case api.OpCreate:
		c.Size = any1(r.Rand, []int{-1, 0, 20, 40, 40, 40, 70, 70, 130, 4097})
	case api.OpDerive:
		c.Cap, c.Rights = x, any1(r.Rand, []int{31, 31, 15, 7, 7, 3, r.Intn(33)})
	case api.OpDestroy, api.OpRevoke, api.OpAdd:
		c.Cap = x
	case api.OpRead, api.OpWrite:
		r.anyPlace(&c, x)
	case api.OpRemove:
		c.Index = r.Intn(3)
	case api.OpSpawn:
		for range r.Intn(4) {
			c.Gifts = append(c.Gifts, r.Intn(2))
		}
	}
	return c
}

func (r *chance) next() {
	c := r.anyCall()
	if len(r.calls) == 0 && r.Intn(20) > 0 {
		c = create(40)
	}
	r.calls = append(r.calls, c)
	if reply := r.k.Do(c); reply.Code == api.OK && reply.Cap.Obj != 0 {
		r.issued = append(r.issued, reply.Cap)
	}
}

// run gives a list of calls, and what the chapter says of it.
func (r *chance) run(t testing.TB, length int) *told {
	t.Helper()
	for range length {
		r.next()
	}
	return tell(t, r.c, r.draws, r.calls)
}

// numbers gives the numbers of all processes that there were, and of some that there weren't.
func (r *chance) numbers() []int {
	out := []int{-1, 65536}
	for n := range r.k.State().NextProc + 1 {
		out = append(out, n)
	}
	return out
}

// seenKinds counts what runs must have, to be worth anything.
type seenKinds struct {
	stained, over, left, drawn, refused, exits int
}

func (n *seenKinds) count(w *told, p int) {
	stains := w.stains(p)
	for at, c := range w.calls {
		refused := w.replies[at].Code != api.OK
		switch {
		case c.By != p && len(stains[at]) > 0:
			n.stained++
			if len(stains[at]) < len(w.replies[at].Data) {
				n.over++
			}
		case c.By == p && refused && w.taken[at] > 0:
			n.drawn++
		case c.By == p && refused && w.replies[at].Code != api.ErrCaller && w.replies[at].Code != api.ErrRecord:
			n.refused++
		case c.By == p && c.Op == api.OpWrite:
			n.left++
		case c.By == p && c.Op == api.OpExit:
			n.exits++
		}
	}
}

// P25.1, P25.3, P25.4: of runs of all kinds, without each process, and without some that are not there.
func TestRuns(t *testing.T) {
	var n seenKinds
	for seed := range int64(400) {
		r := anyChance(seed)
		w := r.run(t, 100)
		w.holdsPlay()
		for _, p := range r.numbers() {
			w.holds(p)
			n.count(w, p)
		}
	}
	if n.stained < 1000 || n.over < 500 || n.left < 1000 || n.drawn < 50 || n.refused < 1000 || n.exits < 100 {
		t.Errorf("the runs have but %+v", n)
	}
}

// P25.2: of runs out of which more is left than may be, who sees it first is told as the chapter says.
func TestSeenRuns(t *testing.T) {
	found := map[bool]int{}
	for seed := range int64(150) {
		r := anyChance(seed)
		w := r.run(t, 80)
		for _, p := range r.numbers() {
			for _, op := range []int{0, 1, 3, 4, 6, 7, 9, 10} {
				left := func(c api.Call) bool { return c.By == p && (c.Op == op || op == 0) }
				rest := slices.DeleteFunc(w.rest(-7), func(at int) bool { return left(w.calls[at]) })
				want := w.seen(p, rest)
				got, code := apart.SeenBy(w.c, w.draws, w.calls, p, func(c api.Call, _ api.Reply, _ int) bool { return left(c) })
				if code != api.OK || got != want {
					t.Fatalf("P25.2: seed %d, %d without its calls %d: %d, %d, want %d", seed, p, op, got, code, want)
				}
				found[got >= 0]++
			}
		}
	}
	if found[true] < 500 || found[false] < 500 {
		t.Errorf("the runs have but %v", found)
	}
}

// P25.3: the cache's and the hash's numbers show nothing of a process that is left out.
func TestCaches(t *testing.T) {
	for seed := range int64(60) {
		r := anyChance(seed)
		w := r.run(t, 100)
		for _, l := range [][3]int{{0, 1, 0}, {1, 1, 64}, {1, 4, 0}, {16, 4, 64}} {
			w.c.Sets, w.c.Ways, w.c.Knob = l[0], l[1], l[2]
			w.holdsPlay()
			w.holds(0)
			w.holds(1)
		}
	}
}

// P25.1: the beginning of a list is told as it is told of the whole.
func TestBeginnings(t *testing.T) {
	for seed := range int64(40) {
		r := anyChance(seed)
		w := r.run(t, 60)
		for n := range len(w.calls) {
			replies, taken, _ := apart.Play(w.c, w.draws, w.calls[:n])
			rest, _ := apart.Rest(w.c, w.draws, w.calls[:n], 0)
			stains, _ := apart.Stains(w.c, w.draws, w.calls[:n], 0)
			all := w.rest(0)
			if !slices.EqualFunc(replies, w.replies[:n], sameReply) || !slices.Equal(taken, w.taken[:n]) || !sameLists(stains, w.stains(0)[:n]) || !slices.Equal(rest, all[:len(rest)]) {
				t.Fatalf("P25.1: seed %d, the first %d", seed, n)
			}
		}
	}
}

// A long list of calls that draw nothing, and of some that are refused for want of draws, ends soon: what a kernel holds is not told for each.
func TestLong(t *testing.T) {
	c := api.Config{Width: 8, Objects: 64, Pages: 256, Entries: 256, Quota: 256, Procs: 32, List: 32, Sets: 16, Ways: 4, Knob: 64}
	calls := []api.Call{create(4096), create(4096), create(4096), create(4096), spawn()}
	for at := range 60000 {
		calls = append(calls, []api.Call{by(1, write(of(1, 5), at%4096, 7)), read(of(1, 5), at%4096, 1), create(0), derive(of(1, 5), 1), derive(of(1, 9), 1)}[at%5])
	}
	draws := words(5, 5, 5, 5)
	rest, code := apart.Rest(c, draws, calls, 1)
	if place, seen := apart.Seen(c, draws, calls, 1); code != api.OK || seen != api.OK || place != -1 || len(rest) != 5+48000 {
		t.Errorf("P25.3: %d of the rest, %d; Seen: %d, %d", len(rest), code, place, seen)
	}
}
