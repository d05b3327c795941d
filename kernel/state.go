package kernel

import (
	"slices"

	"sesame/api"
)

// none stands where a parent's place would: a root has no parent.
const none = -1

// State tells all of it.
func (k *Kernel) State() api.State {
	return api.State{
		Objects:   k.allObjects(),
		Tokens:    k.allTokens(),
		Processes: k.allProcesses(),
		NextId:    k.objects.Next(),
		NextProc:  k.live.Next(),
		Taken:     k.words.Taken(),
	}
}

func (k *Kernel) allObjects() []api.Object {
	var out []api.Object
	for _, id := range k.objects.Ids() {
		out = append(out, api.Object{Id: id, Bytes: k.bytes(id)})
	}
	return out
}

// bytes gives all of an object's, piece by piece: the store reads no more at once than a call may.
func (k *Kernel) bytes(id int) []byte {
	size, _ := k.objects.Size(id)
	out := make([]byte, 0, size)
	for len(out) < size {
		piece, _ := k.objects.Read(id, len(out), min(api.MaxMove, size-len(out)))
		out = append(out, piece...)
	}
	return out
}

// allTokens gives the tokens in the State's order. The catalogue tells parents' places within their object: they stand behind the tokens of those ahead.
func (k *Kernel) allTokens() []api.Token {
	var out []api.Token
	for _, id := range k.objects.Ids() {
		ahead := len(out)
		for _, token := range k.tokens.Of(id) {
			if token.Parent != none {
				token.Parent += ahead
			}
			out = append(out, token)
		}
	}
	return out
}

func (k *Kernel) allProcesses() []api.Process {
	var out []api.Process
	for _, number := range k.live.Numbers() {
		out = append(out, api.Process{Number: number, List: k.lists[number].All()})
	}
	return out
}

// Load gives a kernel of a state. It is laid into an empty one, in its order: most of what may not be in a state the layers below refuse.
func Load(c api.Config, words []api.Word, s api.State) (*Kernel, api.Errno) {
	k, code := New(c, words)
	if code != api.OK {
		return nil, code
	}
	if !k.layObjects(s) || !k.layTokens(s) || !k.layProcesses(s) || k.words.Skip(s.Taken) != api.OK {
		return nil, api.ErrImage
	}
	return k, api.OK
}

// layObjects makes a state's objects. The store takes no next number but above all that are there: so it tells whether the Ids rise.
func (k *Kernel) layObjects(s api.State) bool {
	for _, o := range s.Objects {
		if !k.layObject(o) {
			return false
		}
	}
	return k.objects.SetNext(s.NextId) == api.OK
}

func (k *Kernel) layObject(o api.Object) bool {
	if k.objects.SetNext(o.Id) != api.OK {
		return false
	}
	if _, code := k.objects.Create(len(o.Bytes)); code != api.OK {
		return false
	}
	for off := 0; off < len(o.Bytes); off += api.MaxMove {
		end := min(off+api.MaxMove, len(o.Bytes))
		k.objects.Write(o.Id, off, o.Bytes[off:end]) // it has this size: no piece is refused
	}
	return true
}

// layTokens makes a state's tokens. Told again they stand in the State's order: if they did not come in it, they are others now. A token of an object that is not there is not told.
func (k *Kernel) layTokens(s api.State) bool {
	for _, token := range s.Tokens {
		if !k.layToken(token) {
			return false
		}
	}
	return k.allRooted() && slices.Equal(k.allTokens(), s.Tokens)
}

// layToken makes one. The catalogue, empty at first, numbers tokens in the order in which they come: a parent's place is its number, and none has it that is still to come.
func (k *Kernel) layToken(token api.Token) bool {
	if !k.fits(token.Cap.Pass) || k.counts.Add(token.Cap.Obj) != api.OK {
		return false
	}
	if token.Parent != none {
		_, code := k.tokens.Child(token.Parent, token.Cap, token.Rights)
		return code == api.OK
	}
	_, code := k.tokens.Root(token.Cap, token.Rights)
	return code == api.OK && token.Rights == api.All
}

// allRooted tells whether each object has tokens; the first of them can't be but a root.
func (k *Kernel) allRooted() bool {
	for _, id := range k.objects.Ids() {
		if k.tokens.In(id) == 0 {
			return false
		}
	}
	return true
}

// layProcesses makes a state's processes; process 0 is one of them, if the state has it. The next number is looked at here, as procs takes a 0 where no process is live.
func (k *Kernel) layProcesses(s api.State) bool {
	k.leave(0)
	for _, p := range s.Processes {
		if !k.layProcess(p) {
			return false
		}
	}
	return s.NextProc >= 1 && k.live.SetNext(s.NextProc) == api.OK
}

func (k *Kernel) layProcess(p api.Process) bool {
	if k.live.SetNext(p.Number) != api.OK {
		return false
	}
	if _, code := k.live.Spawn(); code != api.OK {
		return false
	}
	for _, c := range p.List {
		if !within(c.Obj, 0, api.MaxId) || !k.fits(c.Pass) {
			return false
		}
	}
	return k.arm(p.Number, p.List) == api.OK
}
