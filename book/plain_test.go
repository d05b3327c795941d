package book_test

import (
	"bytes"
	"encoding/binary"
	"slices"
	"testing"

	"sesame/api"
	"sesame/book"
	"sesame/kernel"
)

// The tests hold a book against the chapter read plainly: all steps are kept, and each question is answered by going through them. It shares nothing with the package.

type step struct {
	c api.Call
	r api.Reply
}

// plain holds steps (that of the number n at the place n - 1) and the tellings that they made.
type plain struct {
	steps []step
	told  []told
}

// told is a telling; ahead is the place of the one that it came of, -1: of none.
type told struct {
	link  book.Link
	ahead int
}

func (s step) is(op int) bool { return s.c.Op == op && s.r.Code == api.OK }

// issued gives the place of the last step, ahead of a place, that answered a capability; -1: none.
func (p *plain) issued(x api.Cap, ahead int) int {
	for i := ahead - 1; i >= 0; i-- {
		if s := p.steps[i]; (s.is(api.OpCreate) || s.is(api.OpDerive)) && s.r.Cap == x {
			return i
		}
	}
	return -1
}

// lives tells whether what the step at a place answered is live yet.
func (p *plain) lives(at int) bool {
	var line []api.Cap
	for i := at; i >= 0; i = p.issued(p.steps[i].c.Cap, i) {
		line = append(line, p.steps[i].r.Cap)
		if p.steps[i].is(api.OpCreate) {
			break
		}
	}
	for _, s := range p.steps[at+1:] {
		if s.is(api.OpDestroy) && s.c.Cap.Obj == p.steps[at].r.Cap.Obj {
			return false
		}
		if s.is(api.OpRevoke) && slices.Contains(line, s.c.Cap) {
			return false
		}
	}
	return true
}

func (p *plain) rights(x api.Cap) (int, bool) {
	at := p.issued(x, len(p.steps))
	if at < 0 || !p.lives(at) {
		return 0, false
	}
	if p.steps[at].is(api.OpCreate) {
		return 31, true
	}
	return p.steps[at].c.Rights, true
}

// list gives a process's list, behind so many steps.
func (p *plain) list(proc, behind int) []api.Cap {
	var out []api.Cap
	for i, s := range p.steps[:behind] {
		switch {
		case s.is(api.OpSpawn) && s.r.Number == proc:
			out = nil
			for _, place := range s.c.Gifts {
				out = append(out, p.list(s.c.By, i)[place])
			}
		case s.c.By != proc:
		case s.is(api.OpAdd):
			out = append(out, s.c.Cap)
		case s.is(api.OpRemove):
			out = slices.Concat(out[:s.c.Index], out[s.c.Index+1:])
		case s.is(api.OpExit):
			out = nil
		}
	}
	return out
}

// telling gives the place of a telling that was made by one of the first so many steps; -1: none.
func (p *plain) telling(proc int, x api.Cap, first int) int {
	return slices.IndexFunc(p.told, func(t told) bool {
		return t.link.To == proc && t.link.Cap == x && t.link.Step <= first
	})
}

func (p *plain) note(c api.Call, r api.Reply) {
	c.Data, c.Gifts, r.Data = bytes.Clone(c.Data), slices.Clone(c.Gifts), bytes.Clone(r.Data)
	p.steps = append(p.steps, step{c, r})
	if r.Code != api.OK {
		return
	}
	before := len(p.steps) - 1
	switch c.Op {
	case api.OpCreate:
		p.tell(book.Link{Kind: 1, By: c.By, To: c.By, Cap: r.Cap}, -1)
	case api.OpDerive:
		p.tell(book.Link{Kind: 2, By: c.By, To: c.By, Cap: r.Cap}, p.telling(c.By, c.Cap, before))
	case api.OpRead:
		for at := 0; at+24 <= len(r.Data); at++ {
			p.readAt(c, c.Off+at, r.Data[at:at+24])
		}
	case api.OpSpawn:
		list := p.list(c.By, before)
		for _, place := range c.Gifts {
			if from := p.telling(c.By, list[place], before); from >= 0 {
				p.tell(book.Link{Kind: 4, By: c.By, To: r.Number, Cap: list[place]}, from)
			}
		}
	}
}

func (p *plain) tell(l book.Link, ahead int) {
	l.Step = len(p.steps)
	if p.telling(l.To, l.Cap, l.Step) < 0 {
		p.told = append(p.told, told{l, ahead})
	}
}

// readAt: 24 bytes, read at a place of an object, tell a capability if the last write that touched one of them had all of them, and its caller had been told it.
func (p *plain) readAt(c api.Call, place int, row []byte) {
	if binary.LittleEndian.Uint64(row) > 1<<62 {
		return
	}
	x := api.Cap{Obj: int(binary.LittleEndian.Uint64(row)), Pass: api.Word{Lo: binary.LittleEndian.Uint64(row[8:]), Hi: binary.LittleEndian.Uint64(row[16:])}}
	for i := len(p.steps) - 2; i >= 0; i-- {
		s := p.steps[i]
		first, end := s.c.Off, s.c.Off+len(s.c.Data)
		if !s.is(api.OpWrite) || s.c.Cap.Obj != c.Cap.Obj || end <= place || first >= place+24 || first == end {
			continue
		}
		if first > place || end < place+24 || !bytes.Equal(s.c.Data[place-first:place-first+24], row) {
			return
		}
		if from := p.telling(s.c.By, x, i); from >= 0 {
			p.tell(book.Link{Kind: 3, By: s.c.By, To: c.By, Cap: x}, from)
		}
		return
	}
}

func (p *plain) known(proc int) []api.Cap {
	var out []api.Cap
	for _, t := range p.told {
		if t.link.To == proc {
			out = append(out, t.link.Cap)
		}
	}
	return out
}

func (p *plain) way(proc int, x api.Cap) []book.Link {
	var out []book.Link
	for at := p.telling(proc, x, len(p.steps)); at >= 0; at = p.told[at].ahead {
		out = slices.Insert(out, 0, p.told[at].link)
	}
	return out
}

func (p *plain) honest(c api.Call) bool {
	switch c.Op {
	case 2, 3, 4, 7:
		return p.telling(c.By, c.Cap, len(p.steps)) >= 0
	case 5, 6:
		return !c.Given || p.telling(c.By, c.Cap, len(p.steps)) >= 0
	}
	return true
}

func (p *plain) shown(c api.Call) (api.Cap, bool) {
	need := map[int]int{2: 16, 3: 4, 4: 8, 5: 1, 6: 2}[c.Op]
	right := func(x api.Cap) bool {
		rights, live := p.rights(x)
		return live && rights&need > 0
	}
	list := []api.Cap{c.Cap}
	if (c.Op == 5 || c.Op == 6) && !c.Given {
		list = p.list(c.By, len(p.steps))
	}
	for _, x := range list {
		if x.Obj == c.Cap.Obj && right(x) {
			return x, true
		}
	}
	return api.Cap{}, false
}

// world: a kernel, a book that hears what is done, and the chapter.
type world struct {
	t testing.TB
	k *kernel.Kernel
	b *book.Book
	p *plain
}

func made(t testing.TB, c api.Config, draws []api.Word) *world {
	t.Helper()
	k, code := kernel.New(c, draws)
	if code != api.OK {
		t.Fatalf("P21.1: New(%+v): %d", c, code)
	}
	w := &world{t, k, book.New(), &plain{}}
	if w.b == nil || w.b.Steps() != 0 {
		t.Fatal("P24.1: New")
	}
	return w
}

// do does a call, and has it noted.
func (w *world) do(c api.Call) api.Reply {
	w.t.Helper()
	r := w.k.Do(c)
	w.b.Note(c, r)
	w.p.note(c, r)
	if w.b.Steps() != len(w.p.steps) {
		w.t.Fatalf("P24.1: Steps %d, want %d", w.b.Steps(), len(w.p.steps))
	}
	return r
}

// ok does a call that must be done.
func (w *world) ok(c api.Call) api.Reply {
	w.t.Helper()
	r := w.do(c)
	if r.Code != api.OK {
		w.t.Fatalf("%+v: %d", c, r.Code)
	}
	return r
}

// refused does a call that must not be.
func (w *world) refused(c api.Call, code api.Errno) {
	w.t.Helper()
	if r := w.do(c); r.Code != code {
		w.t.Fatalf("%+v: %d, want %d", c, r.Code, code)
	}
}

// holds asks the book all that there is to ask of some processes and capabilities.
func (w *world) holds(procs []int, caps []api.Cap) {
	w.t.Helper()
	for _, x := range caps {
		rights, live := w.b.Rights(x)
		if wants, lives := w.p.rights(x); rights != wants || live != lives {
			w.t.Fatalf("P24.1: behind step %d: Rights(%v): %d, %v, want %d, %v", w.b.Steps(), x, rights, live, wants, lives)
		}
		for _, proc := range procs {
			want := w.p.way(proc, x)
			if got := w.b.Told(proc, x); got != (len(want) > 0) {
				w.t.Fatalf("P24.3: behind step %d: Told(%d, %v): %v", w.b.Steps(), proc, x, got)
			}
			if got, told := w.b.Way(proc, x); told != (len(want) > 0) || !slices.Equal(got, want) {
				w.t.Fatalf("P24.4: behind step %d: Way(%d, %v): %v, %v, want %v", w.b.Steps(), proc, x, got, told, want)
			}
		}
	}
	for _, proc := range procs {
		if got, want := w.b.Known(proc), w.p.known(proc); !slices.Equal(got, want) {
			w.t.Fatalf("P24.3: behind step %d: Known(%d): %v, want %v", w.b.Steps(), proc, got, want)
		}
	}
}

// asks asks the book of a call that may come next.
func (w *world) asks(c api.Call) {
	w.t.Helper()
	if got, want := w.b.Honest(c), w.p.honest(c); got != want {
		w.t.Fatalf("P24.5: behind step %d: Honest(%+v): %v", w.b.Steps(), c, got)
	}
	got, shown := w.b.Shown(c)
	if want, shows := w.p.shown(c); got != want || shown != shows {
		w.t.Fatalf("P24.2: behind step %d: Shown(%+v): %v, %v, want %v, %v", w.b.Steps(), c, got, shown, want, shows)
	}
}
