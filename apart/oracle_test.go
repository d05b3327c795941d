package apart_test

import (
	"bytes"
	"slices"
	"testing"

	"sesame/apart"
	"sesame/api"
	"sesame/kernel"
	"sesame/plain"
)

// nobody stands for the last writer of a byte that nobody wrote.
const nobody = -1 << 40

func sameReply(x, y api.Reply) bool {
	return x.Code == y.Code && x.Cap == y.Cap && x.Number == y.Number && bytes.Equal(x.Data, y.Data)
}

// told is a list of calls and what the chapter says of it: the run is the plain model's, the rest is read off it word by word.
type told struct {
	t       testing.TB
	c       api.Config
	draws   []api.Word
	calls   []api.Call
	replies []api.Reply
	taken   []int
	writers [][]int // of each read that was answered OK, who wrote each of its bytes last
}

func tell(t testing.TB, c api.Config, draws []api.Word, calls []api.Call) *told {
	t.Helper()
	m, code := plain.New(c, draws)
	if code != api.OK {
		t.Fatalf("plain.New(%+v): %d", c, code)
	}
	w := &told{t: t, c: c, draws: draws, calls: calls}
	for _, call := range calls {
		before := m.State().Taken
		w.replies = append(w.replies, m.Do(call))
		w.taken = append(w.taken, m.State().Taken-before)
	}
	for at, call := range calls {
		var l []int
		if call.Op == api.OpRead && w.replies[at].Code == api.OK {
			for i := range w.replies[at].Data {
				l = append(l, w.writer(at, call.Cap.Obj, call.Off+i))
			}
		}
		w.writers = append(w.writers, l)
	}
	return w
}

// writer tells who was, ahead of a step, the last to write a byte.
func (w *told) writer(ahead, obj, off int) int {
	for at := ahead - 1; at >= 0; at-- {
		c := w.calls[at]
		if c.Op == api.OpWrite && w.replies[at].Code == api.OK && c.Cap.Obj == obj && c.Off <= off && off < c.Off+len(c.Data) {
			return c.By
		}
	}
	return nobody
}

func (w *told) quiet(at, p int) bool {
	op := w.calls[at].Op
	return w.calls[at].By == p && (op == api.OpRead || op == api.OpWrite || w.replies[at].Code != api.OK && w.taken[at] == 0)
}

func (w *told) rest(p int) []int {
	var out []int
	for at := range w.calls {
		if !w.quiet(at, p) {
			out = append(out, at)
		}
	}
	return out
}

func (w *told) stains(p int) [][]int {
	out := make([][]int, len(w.calls))
	for at, l := range w.writers {
		for i, who := range l {
			if who == p {
				out[at] = append(out[at], i)
			}
		}
	}
	return out
}

// some gives the calls of some places.
func (w *told) some(places []int) []api.Call {
	var out []api.Call
	for _, at := range places {
		out = append(out, w.calls[at])
	}
	return out
}

// seen is P25.2, for a rest of any kind.
func (w *told) seen(p int, rest []int) int {
	alone, _ := plain.Run(w.c, w.draws, w.some(rest))
	stains := w.stains(p)
	for i, at := range rest {
		x, y := w.replies[at], alone[i]
		if len(x.Data) == len(y.Data) {
			x.Data = slices.Clone(x.Data)
			for _, place := range stains[at] {
				x.Data[place] = y.Data[place]
			}
		}
		if w.calls[at].By != p && !sameReply(x, y) {
			return at
		}
	}
	return -1
}

// holdsPlay holds the run against what the package tells.
func (w *told) holdsPlay() {
	w.t.Helper()
	replies, taken, code := apart.Play(w.c, w.draws, w.calls)
	if code != api.OK || !slices.EqualFunc(replies, w.replies, sameReply) || !slices.Equal(taken, w.taken) {
		w.t.Fatalf("P25.1: Play: %+v, %v, %d, want %+v, %v", replies, taken, code, w.replies, w.taken)
	}
}

// holds holds what the package tells of a process.
func (w *told) holds(p int) {
	w.t.Helper()
	rest, code := apart.Rest(w.c, w.draws, w.calls, p)
	if code != api.OK || !slices.Equal(rest, w.rest(p)) {
		w.t.Fatalf("P25.1: Rest without %d: %v, %d, want %v", p, rest, code, w.rest(p))
	}
	stains, code := apart.Stains(w.c, w.draws, w.calls, p)
	if code != api.OK || !sameLists(stains, w.stains(p)) {
		w.t.Fatalf("P25.1: Stains by %d: %v, %d, want %v", p, stains, code, w.stains(p))
	}
	if place, code := apart.Seen(w.c, w.draws, w.calls, p); code != api.OK || place != -1 {
		w.t.Fatalf("P25.3: Seen of %d: %d, %d", p, place, code)
	}
	w.follows(p, rest)
}

// follows holds P25.4: the same draws call by call, and the same State behind them, but for stained bytes.
func (w *told) follows(p int, rest []int) {
	w.t.Helper()
	_, taken, code := apart.Play(w.c, w.draws, w.some(rest))
	for i, at := range rest {
		if code != api.OK || taken[i] != w.taken[at] {
			w.t.Fatalf("P25.4: without %d call %d took %d, %d, want %d", p, at, taken[i], code, w.taken[at])
		}
	}
	all, alone := stateBehind(w.c, w.draws, w.calls), stateBehind(w.c, w.draws, w.some(rest))
	sameTokens := slices.Equal(all.Tokens, alone.Tokens) && all.Taken == alone.Taken
	sameNumbers := all.NextId == alone.NextId && all.NextProc == alone.NextProc && len(all.Objects) == len(alone.Objects)
	sameProcesses := slices.EqualFunc(all.Processes, alone.Processes, func(x, y api.Process) bool {
		return x.Number == y.Number && slices.Equal(x.List, y.List)
	})
	if !sameTokens || !sameNumbers || !sameProcesses {
		w.t.Fatalf("P25.4: without %d: %+v, want %+v", p, alone, all)
	}
	for i, o := range all.Objects {
		other := alone.Objects[i]
		if o.Id != other.Id || len(o.Bytes) != len(other.Bytes) {
			w.t.Fatalf("P25.4: without %d: object %d of %d, want %d of %d", p, other.Id, len(other.Bytes), o.Id, len(o.Bytes))
		}
		for off := range o.Bytes {
			if o.Bytes[off] != other.Bytes[off] && w.writer(len(w.calls), o.Id, off) != p {
				w.t.Fatalf("P25.4: without %d: object %d, byte %d: %d, want %d", p, o.Id, off, other.Bytes[off], o.Bytes[off])
			}
		}
	}
}

func stateBehind(c api.Config, draws []api.Word, calls []api.Call) api.State {
	k, _ := kernel.New(c, draws)
	for _, call := range calls {
		k.Do(call)
	}
	return k.State()
}
