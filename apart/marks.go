package apart

import "sesame/api"

// marks tells of each byte of each object whether one process was the last to write it.
type marks struct {
	proc    int
	stained map[int][]bool // by the object's number, which is never given again: what is gone can stay
}

func marksOf(p int) *marks {
	return &marks{proc: p, stained: map[int][]bool{}}
}

// hear takes the next step of a run, and gives its stains.
func (m *marks) hear(s step) []int {
	if s.reply.Code != api.OK {
		return nil
	}
	switch s.call.Op {
	case api.OpCreate:
		m.stained[s.reply.Cap.Obj] = make([]bool, s.call.Size)
	case api.OpWrite:
		m.written(s.call)
	case api.OpRead:
		return m.found(s.call, len(s.reply.Data))
	}
	return nil
}

// written marks what a write covers: another's write takes the stains away.
func (m *marks) written(c api.Call) {
	stained := m.stained[c.Cap.Obj]
	for place := range c.Data {
		stained[c.Off+place] = c.By == m.proc
	}
}

// found gives the places of the bytes of a read that are stained.
func (m *marks) found(c api.Call, n int) []int {
	stained := m.stained[c.Cap.Obj]
	var out []int
	for place := range n {
		if stained[c.Off+place] {
			out = append(out, place)
		}
	}
	return out
}
