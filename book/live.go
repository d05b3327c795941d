package book

import (
	"cmp"
	"maps"
	"slices"

	"sesame/api"
)

// token is what a live capability is. A root is its own parent.
type token struct {
	pass   api.Word
	parent api.Word
	rights int
	step   int // that issued it
}

// issue makes a capability live.
func (b *Book) issue(c api.Cap, parent api.Word, rights int) {
	keep(b.live, c.Obj, c.Pass, token{pass: c.Pass, parent: parent, rights: rights, step: b.steps})
}

// forget drops an object with its tokens and what is laid in it: its number is never given again.
func (b *Book) forget(obj int) {
	delete(b.live, obj)
	delete(b.laid, obj)
}

// revoked drops a capability and all that came of it. A parent was issued ahead of its children: in that order each finds its parent gone already.
func (b *Book) revoked(c api.Cap) {
	tokens := b.live[c.Obj]
	delete(tokens, c.Pass)
	for _, t := range slices.SortedFunc(maps.Values(tokens), byStep) {
		if _, live := tokens[t.parent]; !live {
			delete(tokens, t.pass)
		}
	}
	if len(tokens) == 0 {
		b.forget(c.Obj)
	}
}

func byStep(x, y token) int { return cmp.Compare(x.step, y.step) }

// removed takes a place out of the caller's list.
func (b *Book) removed(c api.Call) {
	list := b.lists[c.By]
	if isPlace(c.Index, list) {
		b.lists[c.By] = slices.Delete(list, c.Index, c.Index+1)
	}
}

// isPlace is asked because a run that is no kernel's may name any place.
func isPlace(place int, list []api.Cap) bool { return 0 <= place && place < len(list) }

// needed gives the right that a call asks for; none, if it asks for none.
func needed(op int) int {
	switch op {
	case api.OpDestroy:
		return api.Destroy
	case api.OpDerive:
		return api.Derive
	case api.OpRevoke:
		return api.Revoke
	case api.OpRead:
		return api.Read
	case api.OpWrite:
		return api.Write
	}
	return 0
}

// brings tells whether a call brings a password.
func brings(c api.Call) bool {
	switch c.Op {
	case api.OpDestroy, api.OpDerive, api.OpRevoke, api.OpAdd:
		return true
	case api.OpRead, api.OpWrite:
		return c.Given
	}
	return false
}

// offered gives the capabilities that a call would have validated, in the order in which a kernel tries them.
func (b *Book) offered(c api.Call) []api.Cap {
	if brings(c) {
		return []api.Cap{c.Cap}
	}
	var out []api.Cap
	for _, x := range b.lists[c.By] {
		if x.Obj == c.Cap.Obj {
			out = append(out, x)
		}
	}
	return out
}
