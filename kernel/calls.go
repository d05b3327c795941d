package kernel

import (
	"sesame/api"
	"sesame/derive"
	"sesame/revoke"
	"sesame/wide"
)

// deed is what a kernel does at a call that has a form, and whose caller is live.
type deed func(*Kernel, api.Call) api.Reply

// deeds gives the calls by their Op. The place 0 is none's: no call of a form has it.
func deeds() []deed {
	return []deed{
		api.OpCreate:  (*Kernel).create,
		api.OpDestroy: (*Kernel).destroy,
		api.OpDerive:  (*Kernel).derive,
		api.OpRevoke:  (*Kernel).revoke,
		api.OpRead:    (*Kernel).read,
		api.OpWrite:   (*Kernel).write,
		api.OpAdd:     (*Kernel).add,
		api.OpRemove:  (*Kernel).remove,
		api.OpSpawn:   (*Kernel).spawn,
		api.OpExit:    (*Kernel).exit,
	}
}

// create asks the store ahead of drawing, and makes the object behind it: a refusal takes no draw, and leaves no object without a root.
func (k *Kernel) create(c api.Call) api.Reply {
	if code := k.objects.May(c.Size); code != api.OK {
		return refused(code)
	}
	root, code := derive.Root(k.words, k.tokens, k.counts, k.objects.Next())
	if code != api.OK {
		return refused(code)
	}
	k.objects.Create(c.Size) // May has answered OK: it is not refused
	return api.Reply{Cap: root}
}

func (k *Kernel) destroy(c api.Call) api.Reply {
	_, code := revoke.Object(k.tokens, k.counts, k.objects, c.Cap)
	return k.dropped(code)
}

func (k *Kernel) derive(c api.Call) api.Reply {
	made, code := derive.Child(k.words, k.tokens, k.counts, c.Cap, c.Rights)
	return api.Reply{Code: code, Cap: made}
}

func (k *Kernel) revoke(c api.Call) api.Reply {
	_, code := revoke.Token(k.tokens, k.counts, k.objects, c.Cap)
	return k.dropped(code)
}

// dropped answers a call that takes tokens away. If any are gone, what was validated lately may be of them.
func (k *Kernel) dropped(code api.Errno) api.Reply {
	if code == api.OK {
		k.valid.Gone()
	}
	return api.Reply{Code: code}
}

func (k *Kernel) read(c api.Call) api.Reply {
	if code := k.validated(c, api.Read); code != api.OK {
		return refused(code)
	}
	data, code := k.objects.Read(c.Cap.Obj, c.Off, c.N)
	return api.Reply{Code: code, Data: data}
}

func (k *Kernel) write(c api.Call) api.Reply {
	if code := k.validated(c, api.Write); code != api.OK {
		return refused(code)
	}
	return api.Reply{Code: k.objects.Write(c.Cap.Obj, c.Off, c.Data)}
}

// validated tells whether a call may do to its object what needs a right: by the capability that it gives, or by one of the caller's list.
func (k *Kernel) validated(c api.Call, need int) api.Errno {
	if c.Given {
		return k.valid.Given(c.Cap, need)
	}
	_, code := k.valid.Named(c.Cap.Obj, need, k.lists[c.By].All())
	return code
}

func (k *Kernel) fits(w api.Word) bool { return wide.Fits(w, k.config.Width) }

func (k *Kernel) add(c api.Call) api.Reply {
	if !k.fits(c.Cap.Pass) {
		return refused(api.ErrWidth)
	}
	return api.Reply{Code: k.lists[c.By].Add(c.Cap)}
}

func (k *Kernel) remove(c api.Call) api.Reply {
	_, code := k.lists[c.By].Remove(c.Index)
	return api.Reply{Code: code}
}

func (k *Kernel) spawn(c api.Call) api.Reply {
	gifts, code := k.lists[c.By].Pick(c.Gifts)
	if code != api.OK {
		return refused(code)
	}
	number, code := k.live.Spawn()
	if code != api.OK {
		return refused(code)
	}
	k.arm(number, gifts) // Pick has counted them: they are not too many
	return api.Reply{Number: number}
}

func (k *Kernel) exit(c api.Call) api.Reply {
	k.leave(c.By)
	return api.Reply{}
}
