package guess

import (
	"maps"

	"sesame/api"
	"sesame/wide"
)

// form is a capability as it lies in bytes.
type form [api.CapBytes]byte

// wordAt is where a capability's word begins, behind its object's number.
const wordAt = 8

func formOf(c api.Cap) form {
	var f form
	for at := range wordAt {
		f[at] = byte(c.Obj >> (8 * at))
	}
	copy(f[wordAt:], wide.Bytes(c.Pass))
	return f
}

func (r *run) isTold(proc int, x api.Cap) bool {
	_, told := r.told[proc][x]
	return told
}

func (r *run) tell(proc int, x api.Cap) {
	if r.told[proc] == nil {
		r.told[proc] = map[api.Cap]struct{}{}
	}
	r.told[proc][x] = struct{}{}
}

// spawned: the new process has what it was given, and is told what its giver had been told.
func (r *run) spawned(c api.Call, number int) {
	for _, place := range c.Gifts {
		x := r.lists[c.By][place]
		r.lists[number] = append(r.lists[number], x)
		if r.isTold(c.By, x) {
			r.tell(number, x)
		}
	}
}

// written: what the write covers a byte of lies whole no more, and what its data hold now does. What no call brings is never validated: whether anybody is told that plays no part.
func (r *run) written(c api.Call) {
	if len(c.Data) == 0 {
		return
	}
	laid, end := r.laid[c.Cap.Obj], c.Off+len(c.Data)
	if laid == nil {
		laid = map[int]api.Cap{}
		r.laid[c.Cap.Obj] = laid
	}
	maps.DeleteFunc(laid, func(place int, _ api.Cap) bool {
		return place < end && c.Off < place+api.CapBytes
	})
	for at := range len(c.Data) - api.CapBytes + 1 {
		if x, brought := r.brought[form(c.Data[at:at+api.CapBytes])]; brought {
			laid[c.Off+at] = x
		}
	}
}

// wasRead: the reader is told what lies whole within what it reads.
func (r *run) wasRead(c api.Call) {
	for place, x := range r.laid[c.Cap.Obj] {
		if c.Off <= place && place+api.CapBytes <= c.Off+c.N {
			r.tell(c.By, x)
		}
	}
}
