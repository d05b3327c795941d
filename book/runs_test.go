package book_test

import (
	"math/rand"
	"slices"
	"testing"

	"sesame/api"
	"sesame/book"
)

// The ops that runs are made of: what takes away comes rarely, so that much is told ahead of it.
var (
	often  = []int{1, 3, 3, 5, 5, 5, 5, 6, 6, 6, 7, 9}
	rarely = []int{2, 4, 4, 8, 10, 11}
)

// run is a world that is driven by chance. Honest: its calls bring but what their callers were told.
type run struct {
	*world
	rng    *rand.Rand
	honest bool
	issued []api.Cap // all that were ever answered
}

func anyRun(t testing.TB, seed int64, honest bool) *run {
	rng := rand.New(rand.NewSource(seed))
	width := []int{2, 3, 4, 8, 64, 128}[rng.Intn(6)]
	if honest {
		width = 128
	}
	c := api.Config{
		Width: width, Objects: 1 + rng.Intn(3), Pages: 2 + rng.Intn(6), Entries: 2 + rng.Intn(10), Quota: 2 + rng.Intn(8),
		Procs: 2 + rng.Intn(5), List: 1 + rng.Intn(4), Sets: rng.Intn(3), Ways: 1 + rng.Intn(4), Knob: []int{0, 1, 64}[rng.Intn(3)],
	}
	draws := make([]api.Word, 80)
	for at := range draws {
		draws[at] = api.Word{Hi: uint64(rng.Intn(2)), Lo: uint64(rng.Intn(12))}
		if honest {
			draws[at] = api.Word{Hi: rng.Uint64(), Lo: uint64(at)} // pairwise unlike
		}
	}
	return &run{made(t, c, draws), rng, honest, nil}
}

func any1[T any](rng *rand.Rand, list []T) T { return list[rng.Intn(len(list))] }

func (r *run) dead(x api.Cap) bool {
	_, live := r.p.rights(x)
	return !live
}

// anyCap gives a capability for a caller to bring; none, if it is honest and was told none.
func (r *run) anyCap(caller int) (api.Cap, bool) {
	if r.honest || r.rng.Intn(2) == 0 {
		known := r.p.known(caller)
		if live := slices.DeleteFunc(slices.Clone(known), r.dead); len(live) > 0 && r.rng.Intn(8) > 0 {
			known = live
		}
		if len(known) > 0 {
			return any1(r.rng, known), true
		}
	}
	if r.honest {
		return api.Cap{}, false
	}
	if len(r.issued) > 0 && r.rng.Intn(6) > 0 {
		return any1(r.rng, r.issued), true
	}
	return api.Cap{Obj: r.rng.Intn(3), Pass: api.Word{Lo: uint64(r.rng.Intn(4))}}, true
}

// anyData gives bytes that hold capabilities, guessed ones too: data are no passwords that a call brings.
func (r *run) anyData(caller int) []byte {
	var out []byte
	for range 1 + r.rng.Intn(3) {
		out = append(out, make([]byte, r.rng.Intn(5))...)
		if x, has := r.anyCap(caller); has {
			out = append(out, laid(x)...)
		}
		if len(r.issued) > 0 && r.rng.Intn(4) == 0 {
			out = append(out, laid(any1(r.rng, r.issued))...)
		}
	}
	if r.rng.Intn(3) == 0 {
		out = out[:r.rng.Intn(len(out)+1)]
	}
	return out
}

func (r *run) anyCall() api.Call {
	c := api.Call{Op: any1(r.rng, slices.Concat(often, often, often, rarely))}
	all := r.k.State().Processes
	if len(all) > 0 && r.rng.Intn(20) > 0 {
		c.By = any1(r.rng, all).Number
	}
	if len(all) == 1 && c.Op == api.OpExit && r.rng.Intn(10) > 0 {
		c.Op = api.OpCreate // the last one's exit would end the run
	}
	x, has := r.anyCap(c.By)
	switch c.Op {
	case api.OpCreate:
		c.Size = 100 + r.rng.Intn(100)
	case api.OpDerive:
		c.Cap, c.Rights = x, any1(r.rng, []int{31, 31, 15, 7, 5, 3, 1, r.rng.Intn(33)})
	case api.OpDestroy, api.OpRevoke, api.OpAdd:
		c.Cap = x
	case api.OpRead, api.OpWrite:
		list := slices.DeleteFunc(r.p.list(c.By, len(r.p.steps)), r.dead)
		c.Cap, c.Given, c.Off = x, has && (r.rng.Intn(2) == 0 || len(list) == 0), r.rng.Intn(80)
		if !c.Given {
			c.Cap = of(1+r.rng.Intn(4), 0)
		}
		if !c.Given && len(list) > 0 && r.rng.Intn(8) > 0 {
			c.Cap.Obj = any1(r.rng, list).Obj
		}
		if c.Op == api.OpRead {
			c.Off, c.N = any1(r.rng, []int{0, 0, c.Off}), any1(r.rng, []int{100, 100, r.rng.Intn(100)})
		} else {
			c.Data = r.anyData(c.By)
		}
	case api.OpRemove:
		c.Index = r.rng.Intn(3)
	case api.OpSpawn:
		for range r.rng.Intn(4) {
			c.Gifts = append(c.Gifts, r.rng.Intn(2))
		}
	}
	return c
}

// fits holds what a book shows for a call against what the kernel answers to it.
func (r *run) fits(c api.Call, shown bool, code api.Errno) {
	r.t.Helper()
	asks := slices.Contains([]int{2, 3, 4, 5, 6}, c.Op)
	switch {
	case !asks || code == api.ErrRecord || code == api.ErrCaller:
	case code == api.ErrCap && shown, code == api.ErrRights && shown && c.Op != api.OpDerive:
		r.t.Fatalf("P24.2: %+v: shown, and refused with %d", c, code)
	case code != api.ErrCap && code != api.ErrRights && !shown:
		r.t.Fatalf("P24.2: %+v: not shown, and answered %d", c, code)
	}
}

// next asks of a call, does it, and asks of all that may have changed.
func (r *run) next() {
	r.t.Helper()
	c := r.anyCall()
	if r.honest && !r.b.Honest(c) {
		return
	}
	r.asks(c)
	x, shown := r.b.Shown(c)
	reply := r.do(c)
	r.fits(c, shown, reply.Code)
	if reply.Code == api.OK && (c.Op == api.OpCreate || c.Op == api.OpDerive) && !slices.Contains(r.issued, reply.Cap) {
		r.issued = append(r.issued, reply.Cap)
	}
	if r.honest && reply.Code == api.OK && c.Op >= 2 && c.Op <= 6 {
		r.chained(c.By, x)
	}
}

// chained holds P24.7: a shown capability was told, by a chain that begins with its object's creation, and along which no right grows.
func (r *run) chained(proc int, x api.Cap) {
	r.t.Helper()
	way, told := r.b.Way(proc, x)
	if !told || way[0].Kind != book.KCreated || way[len(way)-1].To != proc || way[len(way)-1].Cap != x {
		r.t.Fatalf("P24.7: %d, %v: %v, %v", proc, x, way, told)
	}
	for at, l := range way[1:] {
		ahead := way[at]
		if l.By != ahead.To || l.Step < ahead.Step {
			r.t.Fatalf("P24.7: %v behind %v", l, ahead)
		}
		grows := r.issuedRights(l.Cap)&^r.issuedRights(ahead.Cap) != 0
		if l.Cap != ahead.Cap && (l.Kind != book.KDerived || l.Cap.Obj != ahead.Cap.Obj || grows) {
			r.t.Fatalf("P24.7: %v behind %v", l, ahead)
		}
	}
}

// issuedRights gives the rights with which a capability was issued, live or not.
func (r *run) issuedRights(x api.Cap) int {
	s := r.p.steps[r.p.issued(x, len(r.p.steps))]
	if s.c.Op == api.OpCreate {
		return 31
	}
	return s.c.Rights
}

// numbers gives the numbers of all processes that there were, and of some that there weren't.
func (r *run) numbers() []int {
	out := []int{-1}
	for n := range r.k.State().NextProc + 1 {
		out = append(out, n)
	}
	return out
}

// lives holds the live capabilities against the kernel's.
func (r *run) lives() {
	r.t.Helper()
	tokens := r.k.State().Tokens
	for _, x := range r.issued {
		at := slices.IndexFunc(tokens, func(t api.Token) bool { return t.Cap == x })
		rights, live := r.b.Rights(x)
		if live != (at >= 0) || live && rights != tokens[at].Rights {
			r.t.Fatalf("P24.1: behind step %d: Rights(%v): %d, %v; %+v", r.b.Steps(), x, rights, live, tokens)
		}
	}
}

// P24.1 to P24.5: of runs of all kinds the book tells what the chapter does.
func TestRuns(t *testing.T) {
	kinds := map[int]int{}
	for seed := range int64(200) {
		r := anyRun(t, seed, false)
		for range 120 {
			r.next()
			r.lives()
			r.holds(r.numbers(), append(r.issued, of(1, 0), of(0, 0)))
		}
		for _, t := range r.p.told {
			kinds[t.link.Kind]++
		}
	}
	for kind := 1; kind <= 4; kind++ {
		if kinds[kind] < 100 {
			t.Errorf("the runs have but %d tellings of kind %d", kinds[kind], kind)
		}
	}
}

// P24.7: in honest runs whatever is done is done with what was told, by a chain from the creation on.
func TestHonestRuns(t *testing.T) {
	long, kinds := 0, map[int]int{}
	for seed := range int64(700) {
		r := anyRun(t, seed, true)
		for range 200 {
			r.next()
		}
		r.lives()
		r.holds(r.numbers(), r.issued)
		for _, t := range r.p.told {
			long = max(long, len(r.p.way(t.link.To, t.link.Cap)))
			kinds[t.link.Kind]++
		}
	}
	if long < 5 || kinds[3] < 100 || kinds[4] < 100 {
		t.Errorf("the runs have Ways of at most %d Links; %v", long, kinds)
	}
}
