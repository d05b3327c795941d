package kernel_test

import (
	"bytes"
	"math"
	"slices"

	"sesame/api"
)

// token: one of the model's; whose children it knows, in the order in which they came.
type token struct {
	is       api.Cap
	rights   int
	children []*token
}

// object: one of the model's.
type object struct {
	id   int
	data []byte
	root *token
}

// process: one of the model's.
type process struct {
	number int
	list   []api.Cap
}

// model: what a kernel is to be, told from the document alone: lists that are gone through, a tree that is walked by recursion, no page, no hash, no cache. It calls no layer.
type model struct {
	c         api.Config
	draws     []api.Word
	taken     int
	objects   []*object
	processes []*process
	nextId    int
	nextProc  int
}

func newModel(c api.Config, draws []api.Word) *model {
	return &model{c: c, draws: draws, processes: []*process{{}}, nextId: 1, nextProc: 1}
}

// bit tells one bit of a word.
func bit(w api.Word, n int) bool {
	if n >= 64 {
		return w.Hi>>(n-64)%2 == 1
	}
	return w.Lo>>n%2 == 1
}

// cut gives a word's lowest bits, bit by bit.
func cut(w api.Word, width int) api.Word {
	var out api.Word
	for n := range width {
		if bit(w, n) && n >= 64 {
			out.Hi += 1 << (n - 64)
		} else if bit(w, n) {
			out.Lo += 1 << n
		}
	}
	return out
}

// formed tells whether a call has a form: chapter 20's rule, written out. What an Op uses is wiped, and the rest must be zero.
func formed(c api.Call) bool {
	if c.Op < 1 || c.Op > 10 || c.By < 0 || c.By > 65535 {
		return false
	}
	short := func(n int) bool { return n >= 0 && n <= 65535 }
	signed := func(n int) bool { return n >= math.MinInt32 && n <= math.MaxInt32 }
	if c.Cap.Obj < 0 || c.Cap.Obj > 1<<62 || c.Rights < 0 || c.Rights > 255 || !signed(c.Size) || !signed(c.Off) || !signed(c.N) || !short(c.Index) || len(c.Gifts) > 255 || len(c.Data) > 1025 {
		return false
	}
	for _, g := range c.Gifts {
		if !short(g) {
			return false
		}
	}
	switch c.Op {
	case 1:
		c.Size = 0
	case 2, 4, 7:
		c.Cap = api.Cap{}
	case 3:
		c.Cap, c.Rights = api.Cap{}, 0
	case 5, 6:
		if !c.Given && c.Cap.Pass != (api.Word{}) {
			return false
		}
		c.Cap, c.Given, c.Off = api.Cap{}, false, 0
		if c.Op == 5 {
			c.N = 0
		} else {
			c.Data = nil
		}
	case 8:
		c.Index = 0
	case 9:
		c.Gifts = nil
	}
	return c.Size == 0 && c.Cap == (api.Cap{}) && !c.Given && c.Rights == 0 && c.Off == 0 && c.N == 0 && len(c.Data) == 0 && c.Index == 0 && len(c.Gifts) == 0
}

// down gives a subtree: a parent, then child by child.
func (t *token) down() []*token {
	out := []*token{t}
	for _, child := range t.children {
		out = append(out, child.down()...)
	}
	return out
}

// find gives the object and the token of a capability, nil where it is not live.
func (m *model) find(x api.Cap) (*object, *token) {
	for _, o := range m.objects {
		for _, t := range o.root.down() {
			if t.is == x {
				return o, t
			}
		}
	}
	return nil, nil
}

func (m *model) tokens() int {
	n := 0
	for _, o := range m.objects {
		n += len(o.root.down())
	}
	return n
}

func (m *model) pages() int {
	n := 0
	for _, o := range m.objects {
		n += (len(o.data) + 63) / 64
	}
	return n
}

func (m *model) caller(number int) *process {
	for _, p := range m.processes {
		if p.number == number {
			return p
		}
	}
	return nil
}

// right tells whether rights have one.
func right(rights, one int) bool { return rights/one%2 == 1 }

// part tells whether rights are some that may be, and all of them another's.
func part(rights, of int) bool {
	if rights < 1 || rights > 31 {
		return false
	}
	for _, one := range []int{1, 2, 4, 8, 16} {
		if right(rights, one) && !right(of, one) {
			return false
		}
	}
	return true
}

// held gives the token of a capability that is to have a right.
func (m *model) held(x api.Cap, one int) (*object, *token, api.Errno) {
	o, t := m.find(x)
	if t == nil {
		return nil, nil, api.ErrCap
	}
	if !right(t.rights, one) {
		return nil, nil, api.ErrRights
	}
	return o, t, api.OK
}

func (m *model) do(c api.Call) api.Reply {
	if !formed(c) {
		return api.Reply{Code: api.ErrRecord}
	}
	p := m.caller(c.By)
	if p == nil {
		return api.Reply{Code: api.ErrCaller}
	}
	switch c.Op {
	case 1:
		return m.create(c.Size)
	case 3:
		return m.derive(c.Cap, c.Rights)
	case 5, 6:
		return m.access(p, c)
	case 9:
		return m.spawn(p, c.Gifts)
	}
	return api.Reply{Code: m.plain(p, c)}
}

// plain does the calls that answer a code alone.
func (m *model) plain(p *process, c api.Call) api.Errno {
	switch c.Op {
	case 2:
		return m.destroy(c.Cap)
	case 4:
		return m.revoke(c.Cap)
	case 7:
		if cut(c.Cap.Pass, m.c.Width) != c.Cap.Pass {
			return api.ErrWidth
		}
		if len(p.list) == m.c.List {
			return api.ErrList
		}
		p.list = append(p.list, c.Cap)
	case 8:
		if c.Index >= len(p.list) {
			return api.ErrIndex
		}
		p.list = slices.Delete(p.list, c.Index, c.Index+1)
	case 10:
		m.processes = slices.DeleteFunc(m.processes, func(other *process) bool { return other == p })
	}
	return api.OK
}

func (m *model) create(size int) api.Reply {
	switch {
	case size < 0 || size > 4096:
		return api.Reply{Code: api.ErrSize}
	case len(m.objects) == m.c.Objects || m.nextId > 1<<62:
		return api.Reply{Code: api.ErrFull}
	case m.pages()+(size+63)/64 > m.c.Pages:
		return api.Reply{Code: api.ErrPages}
	case m.tokens() == m.c.Entries:
		return api.Reply{Code: api.ErrEntry}
	case m.taken == len(m.draws):
		return api.Reply{Code: api.ErrDraws}
	}
	root := &token{is: api.Cap{Obj: m.nextId, Pass: cut(m.draws[m.taken], m.c.Width)}, rights: 31}
	m.objects = append(m.objects, &object{m.nextId, make([]byte, size), root})
	m.taken++
	m.nextId++
	return api.Reply{Cap: root.is}
}

func (m *model) gone(o *object) {
	m.objects = slices.DeleteFunc(m.objects, func(other *object) bool { return other == o })
}

func (m *model) destroy(x api.Cap) api.Errno {
	o, _, code := m.held(x, 16)
	if code == api.OK {
		m.gone(o)
	}
	return code
}

func (m *model) revoke(x api.Cap) api.Errno {
	o, t, code := m.held(x, 8)
	if code != api.OK {
		return code
	}
	if t == o.root {
		m.gone(o)
		return api.OK
	}
	for _, other := range o.root.down() {
		other.children = slices.DeleteFunc(other.children, func(child *token) bool { return child == t })
	}
	return api.OK
}

func (m *model) derive(x api.Cap, rights int) api.Reply {
	o, t, code := m.held(x, 4)
	switch {
	case code != api.OK:
		return api.Reply{Code: code}
	case !part(rights, t.rights):
		return api.Reply{Code: api.ErrRights}
	case len(o.root.down()) >= m.c.Quota:
		return api.Reply{Code: api.ErrQuota}
	case m.tokens() == m.c.Entries:
		return api.Reply{Code: api.ErrEntry}
	}
	for range 9 {
		if m.taken == len(m.draws) {
			return api.Reply{Code: api.ErrDraws}
		}
		drawn := api.Cap{Obj: o.id, Pass: cut(m.draws[m.taken], m.c.Width)}
		m.taken++
		if _, there := m.find(drawn); there == nil {
			t.children = append(t.children, &token{is: drawn, rights: rights})
			return api.Reply{Cap: drawn}
		}
	}
	return api.Reply{Code: api.ErrTwin}
}

// validated gives the object that a read or write of a process goes to.
func (m *model) validated(p *process, c api.Call, one int) (*object, api.Errno) {
	if c.Given {
		o, _, code := m.held(c.Cap, one)
		return o, code
	}
	refusal := api.ErrCap
	for _, x := range p.list {
		if x.Obj != c.Cap.Obj {
			continue
		}
		o, _, code := m.held(x, one)
		if code == api.OK {
			return o, api.OK
		}
		if code == api.ErrRights {
			refusal = api.ErrRights
		}
	}
	return nil, refusal
}

func (m *model) access(p *process, c api.Call) api.Reply {
	n, one := c.N, 1
	if c.Op == 6 {
		n, one = len(c.Data), 2
	}
	o, code := m.validated(p, c, one)
	if code != api.OK {
		return api.Reply{Code: code}
	}
	if c.Off < 0 || n < 0 || n > 1024 || c.Off > len(o.data) || n > len(o.data)-c.Off {
		return api.Reply{Code: api.ErrRange}
	}
	if c.Op == 6 {
		copy(o.data[c.Off:], c.Data)
		return api.Reply{}
	}
	return api.Reply{Data: bytes.Clone(o.data[c.Off : c.Off+n])}
}

func (m *model) spawn(p *process, gifts []int) api.Reply {
	var list []api.Cap
	for _, g := range gifts {
		if g >= len(p.list) {
			return api.Reply{Code: api.ErrIndex}
		}
		list = append(list, p.list[g])
	}
	if len(list) > m.c.List {
		return api.Reply{Code: api.ErrList}
	}
	if len(m.processes) >= m.c.Procs || m.nextProc > 65535 {
		return api.Reply{Code: api.ErrProcs}
	}
	m.processes = append(m.processes, &process{m.nextProc, list})
	m.nextProc++
	return api.Reply{Number: m.nextProc - 1}
}

func (m *model) state() api.State {
	s := api.State{NextId: m.nextId, NextProc: m.nextProc, Taken: m.taken}
	for _, o := range m.objects {
		s.Objects = append(s.Objects, api.Object{Id: o.id, Bytes: bytes.Clone(o.data)})
		s.Tokens = o.root.tell(s.Tokens, -1)
	}
	for _, p := range m.processes {
		s.Processes = append(s.Processes, api.Process{Number: p.number, List: slices.Clone(p.list)})
	}
	return s
}

// tell puts a subtree behind a State's tokens.
func (t *token) tell(l []api.Token, parent int) []api.Token {
	at := len(l)
	l = append(l, api.Token{Cap: t.is, Rights: t.rights, Parent: parent})
	for _, child := range t.children {
		l = child.tell(l, at)
	}
	return l
}

// load gives a model of a state that may be.
func load(c api.Config, draws []api.Word, s api.State) *model {
	m := &model{c: c, draws: draws, taken: s.Taken, nextId: s.NextId, nextProc: s.NextProc}
	made := make([]*token, len(s.Tokens))
	for at, t := range s.Tokens {
		made[at] = &token{is: t.Cap, rights: t.Rights}
		if t.Parent >= 0 {
			made[t.Parent].children = append(made[t.Parent].children, made[at])
		}
	}
	for _, o := range s.Objects {
		root := slices.IndexFunc(s.Tokens, func(t api.Token) bool { return t.Cap.Obj == o.Id })
		m.objects = append(m.objects, &object{o.Id, bytes.Clone(o.Bytes), made[root]})
	}
	for _, p := range s.Processes {
		m.processes = append(m.processes, &process{p.Number, slices.Clone(p.List)})
	}
	return m
}

// sameReply tells whether two replies are one; an empty list may be nil.
func sameReply(a, b api.Reply) bool {
	return a.Code == b.Code && a.Cap == b.Cap && a.Number == b.Number && bytes.Equal(a.Data, b.Data)
}

// sameState tells whether two states are one.
func sameState(a, b api.State) bool {
	objects := slices.EqualFunc(a.Objects, b.Objects, func(x, y api.Object) bool { return x.Id == y.Id && bytes.Equal(x.Bytes, y.Bytes) })
	processes := slices.EqualFunc(a.Processes, b.Processes, func(x, y api.Process) bool { return x.Number == y.Number && slices.Equal(x.List, y.List) })
	return objects && processes && slices.Equal(a.Tokens, b.Tokens) && a.NextId == b.NextId && a.NextProc == b.NextProc && a.Taken == b.Taken
}

// cloned gives a state that shares nothing with another.
func cloned(s api.State) api.State {
	s.Objects, s.Tokens, s.Processes = slices.Clone(s.Objects), slices.Clone(s.Tokens), slices.Clone(s.Processes)
	for at := range s.Objects {
		s.Objects[at].Bytes = bytes.Clone(s.Objects[at].Bytes)
	}
	for at := range s.Processes {
		s.Processes[at].List = slices.Clone(s.Processes[at].List)
	}
	return s
}
