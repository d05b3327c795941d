package image

import (
	"sesame/api"
	"sesame/octet"
)

// reader reads an image's parts. Where one is refused it goes on with zeros: who reads asks once, behind all, whether anything was.
type reader struct {
	bytes   *octet.Reader
	refused bool
}

// ended tells whether all parts were there, and nothing is behind them.
func (r *reader) ended() bool { return !r.refused && r.bytes.End() == api.OK }

func (r *reader) note(code api.Errno) { r.refused = r.refused || code != api.OK }

func (r *reader) number(width, most int) int {
	n, code := r.bytes.Int(width, most)
	r.note(code)
	return n
}

func (r *reader) two() int { return r.number(twoBytes, mostOfTwo) }

func (r *reader) row(n int) []byte {
	row, code := r.bytes.Row(n)
	r.note(code)
	return row
}

func (r *reader) capability() api.Cap {
	x, code := r.bytes.Cap()
	r.note(code)
	return x
}

func (r *reader) head() {
	if string(r.row(len(mark))) != mark {
		r.refused = true
	}
}

func (r *reader) config() api.Config {
	var c api.Config
	c.Width = r.two()
	c.Objects = r.two()
	c.Pages = r.two()
	c.Entries = r.two()
	c.Quota = r.two()
	c.Procs = r.two()
	c.List = r.two()
	c.Sets = r.two()
	c.Ways = r.two()
	c.Knob = r.two()
	return c
}

func (r *reader) state() api.State {
	var s api.State
	s.NextId = r.number(eightBytes, api.MaxId+1)
	s.NextProc = r.number(fourBytes, api.MaxNumber+1)
	s.Taken = r.two()
	s.Objects = r.objects()
	s.Tokens = r.tokens()
	s.Processes = r.processes()
	return s
}

// objects, tokens and processes take no greater number of items than a Config may allow: bytes that tell of more end there.

func (r *reader) objects() []api.Object {
	var out []api.Object
	for range r.number(twoBytes, api.MaxObjects) {
		id := r.number(eightBytes, api.MaxId)
		out = append(out, api.Object{Id: id, Bytes: r.row(r.number(twoBytes, api.MaxBytes))})
	}
	return out
}

func (r *reader) tokens() []api.Token {
	var out []api.Token
	for range r.number(twoBytes, api.MaxEntries) {
		x := r.capability()
		rights := r.number(oneByte, mostOfOne)
		out = append(out, api.Token{Cap: x, Rights: rights, Parent: r.parent()})
	}
	return out
}

func (r *reader) parent() int {
	place := r.two()
	if place == noneLaid {
		return none
	}
	return place
}

func (r *reader) processes() []api.Process {
	var out []api.Process
	for range r.number(twoBytes, api.MaxProcs) {
		number := r.two()
		out = append(out, api.Process{Number: number, List: r.list()})
	}
	return out
}

func (r *reader) list() []api.Cap {
	var out []api.Cap
	for range r.number(oneByte, api.MaxList) {
		out = append(out, r.capability())
	}
	return out
}
