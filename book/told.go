package book

import (
	"slices"

	"sesame/api"
	"sesame/record"
)

// form is a capability as it lies in bytes.
type form [api.CapBytes]byte

// formOf gives a capability's form: a create's answer ends with it. One without a form is no kernel's.
func formOf(c api.Cap) (form, bool) {
	b, code := record.Answer(api.OpCreate, api.Reply{Cap: c})
	if code != api.OK {
		return form{}, false
	}
	return form(b[len(b)-api.CapBytes:]), true
}

// telling is a Link and the telling that it came of, as it was then (nil: none). Neither ever changes: so many may go on from one.
type telling struct {
	link  Link
	ahead *telling
}

// chain gives the Links from the first on.
func (t *telling) chain() []Link {
	var out []Link
	for ; t != nil; t = t.ahead {
		out = append(out, t.link)
	}
	slices.Reverse(out)
	return out
}

// telling gives how a process was told a capability.
func (b *Book) telling(proc int, c api.Cap) (*telling, bool) {
	f, has := formOf(c)
	if !has {
		return nil, false
	}
	return look(b.told, proc, f)
}

// tell writes down a telling by this step, if it is the first of this capability to this process.
func (b *Book) tell(l Link, ahead *telling) {
	f, has := formOf(l.Cap)
	_, told := look(b.told, l.To, f)
	if told || !has {
		return
	}
	l.Step = b.steps
	keep(b.told, l.To, f, &telling{link: l, ahead: ahead})
	b.known[l.To] = append(b.known[l.To], l.Cap)
}

// created: a root, with all rights.
func (b *Book) created(c api.Call, r api.Reply) {
	b.issue(r.Cap, r.Cap.Pass, api.All)
	b.tell(Link{Kind: KCreated, By: c.By, To: c.By, Cap: r.Cap}, nil)
}

// derived: who was not told what it derived from may have guessed it: then nothing is ahead.
func (b *Book) derived(c api.Call, r api.Reply) {
	b.issue(r.Cap, c.Cap.Pass, c.Rights)
	ahead, _ := b.telling(c.By, c.Cap)
	b.tell(Link{Kind: KDerived, By: c.By, To: c.By, Cap: r.Cap}, ahead)
}

// spawned: the new process has what it was given, and is told what its giver had been told.
func (b *Book) spawned(c api.Call, r api.Reply) {
	from := b.lists[c.By]
	var list []api.Cap
	for _, place := range c.Gifts {
		if !isPlace(place, from) {
			continue
		}
		x := from[place]
		list = append(list, x)
		if ahead, told := b.telling(c.By, x); told {
			b.tell(Link{Kind: KGift, By: c.By, To: r.Number, Cap: x}, ahead)
		}
	}
	b.lists[r.Number] = list
}

// written: what is laid over is no more laid whole, and what the writer had been told now is. All else that the data may hold tells nobody anything, and is not kept.
func (b *Book) written(c api.Call) {
	if len(c.Data) == 0 {
		return
	}
	obj := c.Cap.Obj
	before := api.CapBytes - 1 // a capability that begins so far ahead still reaches the first byte
	for at := range before + len(c.Data) {
		delete(b.laid[obj], c.Off-before+at)
	}
	for at := range wholes(c.Data) {
		f := form(c.Data[at : at+api.CapBytes])
		if t, told := look(b.told, c.By, f); told {
			keep(b.laid, obj, c.Off+at, t)
		}
	}
}

// wasRead: the reader is told what lies whole within its bytes.
func (b *Book) wasRead(c api.Call, r api.Reply) {
	for at := range wholes(r.Data) {
		if t, laid := look(b.laid, c.Cap.Obj, c.Off+at); laid {
			b.tell(Link{Kind: KRead, By: t.link.To, To: c.By, Cap: t.link.Cap}, t)
		}
	}
}

// wholes tells at how many places of a row a whole capability may begin.
func wholes(row []byte) int { return max(0, len(row)-api.CapBytes+1) }
