package guess

import (
	"slices"

	"sesame/api"
	"sesame/kernel"
)

// run is a kernel that is asked call by call, with what has come of it so far: what each process has in its list, and what it was told. No number is given twice: what lies in an object that is gone may stay.
type run struct {
	k       *kernel.Kernel
	lists   map[int][]api.Cap            // by process
	told    map[int]map[api.Cap]struct{} // by process
	brought map[form]api.Cap             // all that the calls bring
	laid    map[int]map[int]api.Cap      // by object, by the place where it begins: what is brought and lies there whole
}

// begin gives a run of which no call is done yet. It is to do these calls and no others.
func begin(k *kernel.Kernel, calls []api.Call) *run {
	r := &run{
		k:       k,
		lists:   map[int][]api.Cap{},
		told:    map[int]map[api.Cap]struct{}{},
		brought: map[form]api.Cap{},
		laid:    map[int]map[int]api.Cap{},
	}
	for _, c := range calls {
		if brings(c) {
			r.brought[formOf(c.Cap)] = c.Cap
		}
	}
	return r
}

// do does the next call, and tells whether it lets a guess in. What the call itself tells its caller comes too late for that.
func (r *run) do(c api.Call) bool {
	reply := r.k.Do(c)
	in := r.letsIn(c, reply.Code)
	if reply.Code == api.OK {
		r.hear(c, reply)
	}
	return in
}

// letsIn tells whether a call that was answered so has had a capability validated that its caller was not told.
func (r *run) letsIn(c api.Call, code api.Errno) bool {
	switch code {
	case api.ErrRecord, api.ErrCaller, api.ErrCap, api.ErrRights:
		return false
	}
	switch c.Op {
	case api.OpDestroy, api.OpDerive, api.OpRevoke:
		return !r.isTold(c.By, c.Cap)
	case api.OpRead, api.OpWrite:
		return !r.isTold(c.By, r.validated(c))
	}
	return false
}

// validated gives the capability by which the kernel has let a read or write pass. Of a list it is the first by which the kernel lets pass the same call that moves no byte: that changes nothing, and no place of an object is out of its range.
func (r *run) validated(c api.Call) api.Cap {
	if c.Given {
		return c.Cap
	}
	for _, x := range r.lists[c.By] {
		if x.Obj != c.Cap.Obj {
			continue
		}
		if r.k.Do(api.Call{Op: c.Op, By: c.By, Cap: x, Given: true}).Code == api.OK {
			return x
		}
	}
	return api.Cap{} // never: then the kernel has found none either
}

// hear takes in what a call that was answered OK has changed.
func (r *run) hear(c api.Call, reply api.Reply) {
	switch c.Op {
	case api.OpCreate, api.OpDerive:
		r.tell(c.By, reply.Cap)
	case api.OpRead:
		r.wasRead(c)
	case api.OpWrite:
		r.written(c)
	case api.OpAdd:
		r.lists[c.By] = append(r.lists[c.By], c.Cap)
	case api.OpRemove:
		r.lists[c.By] = slices.Delete(r.lists[c.By], c.Index, c.Index+1)
	case api.OpSpawn:
		r.spawned(c, reply.Number)
	case api.OpExit:
		delete(r.lists, c.By)
		delete(r.told, c.By)
	}
}
