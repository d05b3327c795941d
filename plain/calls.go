package plain

import (
	"slices"

	"sesame/api"
	"sesame/mask"
	"sesame/wide"
)

// attempt does a call that is one, of a live process. What it leaves behind a refusal is not kept, but how many words were taken.
func (m *Model) attempt(c api.Call) api.Reply {
	switch c.Op {
	case api.OpCreate:
		return m.create(c.Size)
	case api.OpDestroy:
		return m.destroy(c.Cap)
	case api.OpDerive:
		return m.derive(c.Cap, c.Rights)
	case api.OpRevoke:
		return m.revoke(c.Cap)
	case api.OpRead:
		return m.read(c)
	case api.OpWrite:
		return m.write(c)
	case api.OpAdd:
		return m.add(c.By, c.Cap)
	case api.OpRemove:
		return m.remove(c.By, c.Index)
	case api.OpSpawn:
		return m.spawn(c.By, c.Gifts)
	}
	return m.exit(c.By)
}

func pagesOf(size int) int { return (size + api.PageBytes - 1) / api.PageBytes }

// pages tells how many all objects have together.
func (m *Model) pages() int {
	sum := 0
	for _, o := range m.objects {
		sum += pagesOf(len(o.bytes))
	}
	return sum
}

// live tells how many tokens all objects have together.
func (m *Model) live() int {
	sum := 0
	for _, o := range m.objects {
		sum += len(o.tokens)
	}
	return sum
}

// room tells whether an object of a size may be made.
func (m *Model) room(size int) api.Errno {
	switch {
	case !within(size, 0, api.MaxBytes):
		return api.ErrSize
	case len(m.objects) >= m.config.Objects, m.nextId > api.MaxId:
		return api.ErrFull
	case m.pages()+pagesOf(size) > m.config.Pages:
		return api.ErrPages
	case m.live() >= m.config.Entries:
		return api.ErrEntry
	}
	return api.OK
}

func (m *Model) create(size int) api.Reply {
	if code := m.room(size); code != api.OK {
		return refused(code)
	}
	word, code := m.draw()
	if code != api.OK {
		return refused(code)
	}
	id := m.nextId
	m.nextId++
	m.objects[id] = object{
		bytes:  make([]byte, size),
		tokens: []token{{pass: word, rights: api.All}},
	}
	return api.Reply{Cap: api.Cap{Obj: id, Pass: word}}
}

// find gives the token of a capability, if it is live. An object that is not there has none.
func (m *Model) find(c api.Cap) (token, bool) {
	for _, t := range m.objects[c.Obj].tokens {
		if t.pass == c.Pass {
			return t, true
		}
	}
	return token{}, false
}

// given gives the token of a capability that must have a right.
func (m *Model) given(c api.Cap, need int) (token, api.Errno) {
	t, live := m.find(c)
	if !live {
		return token{}, api.ErrCap
	}
	if !mask.Has(t.rights, need) {
		return token{}, api.ErrRights
	}
	return t, api.OK
}

func (m *Model) destroy(c api.Cap) api.Reply {
	if _, code := m.given(c, api.Destroy); code != api.OK {
		return refused(code)
	}
	delete(m.objects, c.Obj)
	return api.Reply{}
}

// source gives the token that another with these rights may be derived from.
func (m *Model) source(c api.Cap, rights int) (token, api.Errno) {
	t, code := m.given(c, api.Derive)
	switch {
	case code != api.OK:
		return token{}, code
	case !mask.Part(rights, t.rights):
		return token{}, api.ErrRights
	case len(m.objects[c.Obj].tokens) >= m.config.Quota:
		return token{}, api.ErrQuota
	case m.live() >= m.config.Entries:
		return token{}, api.ErrEntry
	}
	return t, api.OK
}

func (m *Model) derive(c api.Cap, rights int) api.Reply {
	above, code := m.source(c, rights)
	if code != api.OK {
		return refused(code)
	}
	made, code := m.drawNew(c.Obj)
	if code != api.OK {
		return refused(code)
	}
	o := m.objects[c.Obj]
	below := token{pass: made.Pass, rights: rights, parent: above.pass}
	o.tokens = slices.Concat(o.tokens, []token{below})
	m.objects[c.Obj] = o
	return api.Reply{Cap: made}
}

// drawNew draws until there is a word that no live token of the object has.
func (m *Model) drawNew(obj int) (api.Cap, api.Errno) {
	for range api.Redraws + 1 {
		word, code := m.draw()
		if code != api.OK {
			return api.Cap{}, code
		}
		drawn := api.Cap{Obj: obj, Pass: word}
		if _, twin := m.find(drawn); !twin {
			return drawn, api.OK
		}
	}
	return api.Cap{}, api.ErrTwin
}

func (m *Model) revoke(c api.Cap) api.Reply {
	if _, code := m.given(c, api.Revoke); code != api.OK {
		return refused(code)
	}
	o := m.objects[c.Obj]
	if o.tokens[0].pass == c.Pass {
		delete(m.objects, c.Obj)
		return api.Reply{}
	}
	o.tokens = withoutSubtree(o.tokens, c.Pass)
	m.objects[c.Obj] = o
	return api.Reply{}
}

// withoutSubtree gives an object's tokens without one, which is not the root, and all that came of it. Each stands behind its parent: whether that is gone is known when it comes.
func withoutSubtree(all []token, top api.Word) []token {
	left := []token{all[0]}
	gone := []api.Word{top}
	for _, t := range all[1:] {
		if t.pass == top || slices.Contains(gone, t.parent) {
			gone = append(gone, t.pass)
		} else {
			left = append(left, t)
		}
	}
	return left
}

// validated tells whether a call may do to its object what needs a right: by the capability that it gives, or by one of the caller's list.
func (m *Model) validated(c api.Call, need int) api.Errno {
	if c.Given {
		_, code := m.given(c.Cap, need)
		return code
	}
	refusal := api.ErrCap
	for _, x := range m.lists[c.By] {
		if x.Obj != c.Cap.Obj {
			continue
		}
		switch _, code := m.given(x, need); code {
		case api.OK:
			return api.OK
		case api.ErrRights:
			refusal = api.ErrRights
		}
	}
	return refusal
}

// inRange tells whether a row of a size has n bytes from a place on, and whether so many may be moved.
func inRange(size, off, n int) bool {
	return within(n, 0, api.MaxMove) && within(off, 0, size) && n <= size-off
}

func (m *Model) read(c api.Call) api.Reply {
	if code := m.validated(c, api.Read); code != api.OK {
		return refused(code)
	}
	row := m.objects[c.Cap.Obj].bytes
	if !inRange(len(row), c.Off, c.N) {
		return refused(api.ErrRange)
	}
	return api.Reply{Data: append([]byte(nil), row[c.Off:c.Off+c.N]...)}
}

func (m *Model) write(c api.Call) api.Reply {
	if code := m.validated(c, api.Write); code != api.OK {
		return refused(code)
	}
	o := m.objects[c.Cap.Obj]
	if !inRange(len(o.bytes), c.Off, len(c.Data)) {
		return refused(api.ErrRange)
	}
	o.bytes = slices.Concat(o.bytes[:c.Off], c.Data, o.bytes[c.Off+len(c.Data):])
	m.objects[c.Cap.Obj] = o
	return api.Reply{}
}

func (m *Model) add(by int, c api.Cap) api.Reply {
	if !wide.Fits(c.Pass, m.config.Width) {
		return refused(api.ErrWidth)
	}
	if len(m.lists[by]) >= m.config.List {
		return refused(api.ErrList)
	}
	m.lists[by] = slices.Concat(m.lists[by], []api.Cap{c})
	return api.Reply{}
}

func (m *Model) remove(by int, index int) api.Reply {
	list := m.lists[by]
	if index >= len(list) {
		return refused(api.ErrIndex)
	}
	m.lists[by] = slices.Concat(list[:index], list[index+1:])
	return api.Reply{}
}

// pick gives the capabilities at places of a list.
func pick(list []api.Cap, places []int) ([]api.Cap, api.Errno) {
	var out []api.Cap
	for _, place := range places {
		if place >= len(list) {
			return nil, api.ErrIndex
		}
		out = append(out, list[place])
	}
	return out, api.OK
}

func (m *Model) spawn(by int, places []int) api.Reply {
	gifts, code := pick(m.lists[by], places)
	switch {
	case code != api.OK:
		return refused(code)
	case len(gifts) > m.config.List:
		return refused(api.ErrList)
	case len(m.lists) >= m.config.Procs, m.nextProc > api.MaxNumber:
		return refused(api.ErrProcs)
	}
	number := m.nextProc
	m.nextProc++
	m.lists[number] = gifts
	return api.Reply{Number: number}
}

func (m *Model) exit(by int) api.Reply {
	delete(m.lists, by)
	return api.Reply{}
}
