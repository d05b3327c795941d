package guess_test

import (
	"bytes"
	"encoding/binary"
	"slices"
	"testing"

	"sesame/api"
	"sesame/guess"
	"sesame/plain"
)

// nobody stands for the write that laid a byte that nobody wrote.
const nobody = -1

// history is a run of the plain model, with what the chapter says of it: each question is answered by going through the calls, word by word. It shares nothing with the package.
type history struct {
	m       *plain.Model
	calls   []api.Call
	replies []api.Reply
	ahead   []api.State // of each call, the State ahead of it
}

// told gives the history of a run.
func told(t testing.TB, c api.Config, draws []api.Word, calls []api.Call) *history {
	t.Helper()
	m, code := plain.New(c, draws)
	if code != api.OK {
		t.Fatalf("plain.New(%+v): %d", c, code)
	}
	h := &history{m: m}
	for _, call := range calls {
		h.do(call)
	}
	return h
}

// do does a call, and gives its place.
func (h *history) do(c api.Call) int {
	h.calls = append(h.calls, c)
	h.ahead = append(h.ahead, h.m.State())
	h.replies = append(h.replies, h.m.Do(c))
	return len(h.calls) - 1
}

// done tells whether the call at a place is of this kind, and was answered OK.
func (h *history) done(at, op int) bool {
	return h.calls[at].Op == op && h.replies[at].Code == api.OK
}

// list gives a process's list, ahead of the call at a place.
func (h *history) list(at, proc int) []api.Cap {
	for _, p := range h.ahead[at].Processes {
		if p.Number == proc {
			return p.List
		}
	}
	return nil
}

// writer gives the place of the write that was, ahead of the call at a place, the last to cover a byte.
func (h *history) writer(at, obj, off int) int {
	for i := at - 1; i >= 0; i-- {
		c := h.calls[i]
		if h.done(i, api.OpWrite) && c.Cap.Obj == obj && c.Off <= off && off < c.Off+len(c.Data) {
			return i
		}
	}
	return nobody
}

// shows tells whether the read at a place has, at some place of its Data, a capability that one write laid.
func (h *history) shows(at int, x api.Cap) bool {
	c, data := h.calls[at], h.replies[at].Data
	for i := 0; i+24 <= len(data); i++ {
		if !bytes.Equal(data[i:i+24], laid(x)) {
			continue
		}
		var writers []int
		for j := range 24 {
			writers = append(writers, h.writer(at, c.Cap.Obj, c.Off+i+j))
		}
		writers = slices.Compact(writers)
		if len(writers) == 1 && writers[0] != nobody {
			return true
		}
	}
	return false
}

// way tells by what kind of call a process was told a capability ahead of the call at a place; 0: it was not.
func (h *history) way(at, proc int, x api.Cap) int {
	for i := range at {
		c, r := h.calls[i], h.replies[i]
		switch {
		case h.done(i, api.OpCreate) || h.done(i, api.OpDerive):
			if c.By == proc && r.Cap == x {
				return c.Op
			}
		case h.done(i, api.OpRead):
			if c.By == proc && h.shows(i, x) {
				return c.Op
			}
		case h.done(i, api.OpSpawn) && r.Number == proc:
			gift := slices.ContainsFunc(c.Gifts, func(place int) bool { return h.list(i, c.By)[place] == x })
			if gift && h.way(i, c.By, x) != 0 {
				return c.Op
			}
		}
	}
	return 0
}

// validated gives the capability that the call at a place had validated, if it got so far.
func (h *history) validated(at int) (api.Cap, bool) {
	c := h.calls[at]
	switch h.replies[at].Code {
	case api.ErrRecord, api.ErrCaller, api.ErrCap, api.ErrRights:
		return api.Cap{}, false
	}
	need := 0
	switch c.Op {
	case api.OpDestroy, api.OpDerive, api.OpRevoke:
		return c.Cap, true
	case api.OpRead:
		need = api.Read
	case api.OpWrite:
		need = api.Write
	default:
		return api.Cap{}, false
	}
	if c.Given {
		return c.Cap, true
	}
	for _, x := range h.list(at, c.By) {
		for _, token := range h.ahead[at].Tokens {
			if x.Obj == c.Cap.Obj && token.Cap == x && token.Rights&need != 0 {
				return x, true
			}
		}
	}
	panic("a named call passed, and nothing of its caller's list lets it")
}

// letsIn tells whether the call at a place lets a guess in.
func (h *history) letsIn(at int) bool {
	x, validated := h.validated(at)
	return validated && h.way(at, h.calls[at].By, x) == 0
}

// first gives the place of the first call that lets a guess in; -1: none does.
func (h *history) first() int {
	for at := range h.calls {
		if h.letsIn(at) {
			return at
		}
	}
	return -1
}

// lists gives all lists of n draws at a width: the numbers' bits, cut into words.
func lists(n, width int) [][]api.Word {
	var out [][]api.Word
	for number := range uint64(1) << (n * width) {
		var l []api.Word
		for place := range n {
			l = append(l, api.Word{Lo: number >> (place * width) % (1 << width)})
		}
		out = append(out, l)
	}
	return out
}

// counted counts the lists of n draws that let a guess in, by the history of each.
func counted(t testing.TB, c api.Config, calls []api.Call, n int) int {
	t.Helper()
	in := 0
	for _, l := range lists(n, c.Width) {
		if told(t, c, l, calls).first() >= 0 {
			in++
		}
	}
	return in
}

// holdsIn holds In against the history.
func holdsIn(t testing.TB, c api.Config, draws []api.Word, calls []api.Call) bool {
	t.Helper()
	want := told(t, c, draws, calls).first()
	in, code := guess.In(c, draws, calls)
	if code != api.OK || in != (want >= 0) {
		t.Fatalf("P26.2: In(%+v, %v, %+v): %v, %d; the first call that lets a guess in: %d", c, draws, calls, in, code, want)
	}
	return in
}

// holdsCount holds Count against the histories, and against the bound (P26.5).
func holdsCount(t testing.TB, c api.Config, calls []api.Call, n int) int {
	t.Helper()
	want := counted(t, c, calls, n)
	all, in, code := guess.Count(c, calls, n)
	if code != api.OK || all != 1<<(n*c.Width) || in != want {
		t.Fatalf("P26.3: Count(%+v, %+v, %d): %d, %d, %d, want %d, %d", c, calls, n, all, in, code, 1<<(n*c.Width), want)
	}
	holdsBound(t, c, calls, n, all, in)
	return in
}

func holdsBound(t testing.TB, c api.Config, calls []api.Call, n, all, in int) {
	t.Helper()
	bound, _ := guess.Bound(guess.Passwords(calls), n, c.Width)
	if in > bound || in > all {
		t.Fatalf("P26.5: Count(%+v, %+v, %d): %d of %d, the bound is %d", c, calls, n, in, all, bound)
	}
}

// laid gives capabilities' bytes, one behind the other.
func laid(caps ...api.Cap) []byte {
	var out []byte
	for _, x := range caps {
		out = binary.LittleEndian.AppendUint64(out, uint64(x.Obj))
		out = binary.LittleEndian.AppendUint64(out, x.Pass.Lo)
		out = binary.LittleEndian.AppendUint64(out, x.Pass.Hi)
	}
	return out
}
