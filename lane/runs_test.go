package lane_test

import (
	"math/rand"
	"slices"
	"testing"

	"sesame/api"
	"sesame/kernel"
	"sesame/lane"
	"sesame/record"
)

// chance makes lists of records with a kernel beside it, which tells what is there, and answers them one behind the other.
type chance struct {
	*rand.Rand
	c       api.Config
	draws   []api.Word
	k       *kernel.Kernel
	issued  []api.Cap
	records [][]byte
	replies [][]byte
}

func any1[T any](rng *rand.Rand, list []T) T { return list[rng.Intn(len(list))] }

func anyChance(t testing.TB, seed int64) *chance {
	t.Helper()
	rng := rand.New(rand.NewSource(seed))
	c := api.Config{
		Width: any1(rng, []int{1, 2, 3, 8, 8, 8, 64, 128}), Objects: 1 + rng.Intn(6), Pages: 1 + rng.Intn(12), Entries: 2 + rng.Intn(20), Quota: 1 + rng.Intn(8),
		Procs: 1 + rng.Intn(6), List: 1 + rng.Intn(4), Sets: rng.Intn(3), Ways: 1 + rng.Intn(4), Knob: any1(rng, []int{0, 1, 64}),
	}
	draws := make([]api.Word, any1(rng, []int{0, 3, 20, 80, 80, 80}))
	for at := range draws {
		draws[at] = api.Word{Hi: uint64(rng.Intn(2)), Lo: uint64(rng.Intn(30))}
	}
	return &chance{Rand: rng, c: c, draws: draws, k: fresh(t, c, draws)}
}

// anyCap gives one that is live, mostly.
func (r *chance) anyCap(s api.State) api.Cap {
	if len(s.Tokens) > 0 && r.Intn(8) > 0 {
		return any1(r.Rand, s.Tokens).Cap
	}
	if len(r.issued) > 0 && r.Intn(3) > 0 {
		return any1(r.Rand, r.issued)
	}
	return of(r.Intn(3), uint64(r.Intn(300)))
}

// The ops that runs are made of: what takes away comes rarely, so that much is there.
var ops = []int{1, 1, 1, 1, 3, 3, 3, 3, 3, 3, 5, 5, 5, 5, 5, 5, 6, 6, 6, 6, 6, 6, 7, 7, 7, 7, 9, 9, 9, 9, 2, 4, 8, 10}

// anyCall gives one that has a form.
func (r *chance) anyCall() api.Call {
	s := r.k.State()
	c := api.Call{Op: any1(r.Rand, ops), By: r.Intn(4)}
	if len(s.Processes) > 0 && r.Intn(20) > 0 {
		c.By = any1(r.Rand, s.Processes).Number
	}
	if c.Op == api.OpExit && len(s.Processes) == 1 && r.Intn(10) > 0 {
		c.Op = api.OpSpawn // the last one's exit would end the run
	}
	x := r.anyCap(s)
	switch c.Op {
	case api.OpCreate:
		c.Size = any1(r.Rand, []int{-1, 0, 20, 40, 40, 70, 130, 4097})
	case api.OpDerive:
		c.Cap, c.Rights = x, any1(r.Rand, []int{31, 31, 15, 7, 7, 3, r.Intn(256)})
	case api.OpDestroy, api.OpRevoke, api.OpAdd:
		c.Cap = x
	case api.OpRead, api.OpWrite:
		r.moves(&c, x)
	case api.OpRemove:
		c.Index = r.Intn(3)
	case api.OpSpawn:
		for range r.Intn(4) {
			c.Gifts = append(c.Gifts, r.Intn(2))
		}
	}
	return c
}

// moves lets a call read or write, given or named, mostly within the object's size.
func (r *chance) moves(c *api.Call, x api.Cap) {
	c.Cap, c.Given, c.Off = x, r.Intn(3) > 0, r.Intn(18)-1
	if !c.Given {
		c.Cap.Pass = api.Word{}
	}
	n := any1(r.Rand, []int{0, 1, 4, 9, 9, 16, 16, 22, 1024, 1025})
	if c.Op == api.OpRead {
		c.N = n
		return
	}
	c.Data = make([]byte, n)
	r.Read(c.Data)
}

// spoilt gives bytes that are a call's no more, mostly.
func (r *chance) spoilt(b []byte) []byte {
	switch r.Intn(4) {
	case 0:
		return b[:r.Intn(len(b))]
	case 1:
		return append(slices.Clone(b), byte(r.Intn(3)))
	case 2:
		out := slices.Clone(b)
		out[r.Intn(len(out))] ^= 1 << r.Intn(8)
		return out
	}
	out := make([]byte, r.Intn(40))
	r.Read(out)
	return out
}

// next makes one record more, and has it answered.
func (r *chance) next() {
	c := r.anyCall()
	b, _ := record.Bytes(c)
	if r.Intn(8) == 0 {
		b = r.spoilt(b)
	}
	reply := r.k.Record(b)
	r.records, r.replies = append(r.records, b), append(r.replies, reply)
	if told, _ := record.ParseAnswer(c.Op, reply); told.Cap.Obj != 0 {
		r.issued = append(r.issued, told.Cap)
	}
}

// run gives a list of records with its replies, answered one behind the other by a kernel of its own.
func run(t testing.TB, seed int64, length int) *chance {
	t.Helper()
	r := anyChance(t, seed)
	for range length {
		r.next()
	}
	return r
}

// P27.1: Read of runs' records is Parse of each.
func TestReadsAsParse(t *testing.T) {
	for seed := range int64(60) {
		l := run(t, seed, 120).records
		calls, codes := make([]api.Call, len(l)), make([]api.Errno, len(l))
		for at, b := range l {
			calls[at], codes[at] = record.Parse(b)
		}
		for _, workers := range []int{1, 2, 3, 8, 33, 64} {
			reads(t, "a run", l, workers, calls, codes)
		}
	}
}

// opCode: a record's first byte, and what was answered.
type opCode struct {
	op   int
	code api.Errno
}

// P27.2: Run answers what Record does, asked one behind the other, and the state behind is the same; and so do both from then on.
func TestRunsAsRecord(t *testing.T) {
	met := map[opCode]int{}
	for seed := range int64(60) {
		r := run(t, seed, 120)
		for at, b := range r.records {
			if len(b) > 0 {
				met[opCode{int(b[0]), api.Errno(r.replies[at][0])}]++
			}
		}
		for _, workers := range []int{1, 2, 3, 8, 33, 64} {
			k := fresh(t, r.c, r.draws)
			got, code := lane.Run(k, r.records, workers)
			if code != api.OK || !sameRows(got, r.replies) {
				t.Fatalf("P27.2: seed %d, %d workers: %x, %d; want %x", seed, workers, got, code, r.replies)
			}
			if !sameState(k.State(), r.k.State()) {
				t.Fatalf("P27.2: seed %d, %d workers: the state behind: %+v, want %+v", seed, workers, k.State(), r.k.State())
			}
		}
	}
	holdsAll(t, met)
}

// holdsAll sees to it that the runs have met what they are to meet: each call done, and each refusal of it.
func holdsAll(t *testing.T, met map[opCode]int) {
	t.Helper()
	wanted := map[int][]api.Errno{
		api.OpCreate:  {api.ErrSize, api.ErrFull, api.ErrPages, api.ErrEntry, api.ErrDraws},
		api.OpDestroy: {api.ErrCap, api.ErrRights},
		api.OpDerive:  {api.ErrCap, api.ErrRights, api.ErrQuota, api.ErrEntry, api.ErrDraws, api.ErrTwin},
		api.OpRevoke:  {api.ErrCap, api.ErrRights},
		api.OpRead:    {api.ErrCap, api.ErrRights, api.ErrRange},
		api.OpWrite:   {api.ErrCap, api.ErrRights, api.ErrRange},
		api.OpAdd:     {api.ErrWidth, api.ErrList},
		api.OpRemove:  {api.ErrIndex},
		api.OpSpawn:   {api.ErrIndex, api.ErrList, api.ErrProcs},
		api.OpExit:    nil,
	}
	for op, codes := range wanted {
		for _, code := range append(codes, api.OK, api.ErrRecord, api.ErrCaller) {
			if met[opCode{op, code}] == 0 {
				t.Errorf("no call %d was answered %d", op, code)
			}
		}
	}
}

// P27.3: a run in pieces, each with another number of workers, is the run of the whole; so it is with pieces that Record answers.
func TestPieces(t *testing.T) {
	for seed := range int64(100) {
		r := run(t, seed, 80)
		k := fresh(t, r.c, r.draws)
		var got [][]byte
		for at := 0; at < len(r.records); {
			end := min(at+r.Intn(30), len(r.records))
			if r.Intn(5) == 0 && end > at {
				got = append(got, k.Record(r.records[at]))
				at++
				continue
			}
			replies, code := lane.Run(k, r.records[at:end], 1+r.Intn(mostWorkers))
			if code != api.OK || len(replies) != end-at {
				t.Fatalf("P27.2: seed %d: %d replies of %d, %d", seed, len(replies), end-at, code)
			}
			got, at = append(got, replies...), end
		}
		if !sameRows(got, r.replies) || !sameState(k.State(), r.k.State()) {
			t.Fatalf("P27.3: seed %d: %x, want %x", seed, got, r.replies)
		}
	}
}

// P27.3: how many workers there are, and how they run, shows nowhere: each number of them, again and again.
func TestWorkersShowNowhere(t *testing.T) {
	r := run(t, 7, 200)
	for range 3 {
		for workers := 1; workers <= mostWorkers; workers++ {
			k := fresh(t, r.c, r.draws)
			if got, code := lane.Run(k, r.records, workers); code != api.OK || !sameRows(got, r.replies) || !sameState(k.State(), r.k.State()) {
				t.Fatalf("P27.3: %d workers: %x, %d", workers, got, code)
			}
		}
	}
}

// P27.2: Read alone does nothing: the same records are done by Run behind it.
func TestReadDoesNothing(t *testing.T) {
	r := run(t, 3, 100)
	k := fresh(t, r.c, r.draws)
	before := k.State()
	lane.Read(r.records, 8)
	if !sameState(k.State(), before) {
		t.Errorf("P27.1: Read has changed a kernel")
	}
	if got, _ := lane.Run(k, r.records, 8); !sameRows(got, r.replies) {
		t.Errorf("P27.2: behind a Read: %x, want %x", got, r.replies)
	}
}
