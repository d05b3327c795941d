package plain

import (
	"maps"
	"slices"

	"sesame/api"
)

// none stands where a parent's place would: a root has no parent.
const none = -1

// rising gives the numbers of a map. It goes through the map in any order, and sorts them.
func rising[V any](all map[int]V) []int { return slices.Sorted(maps.Keys(all)) }

// State tells all of it.
func (m *Model) State() api.State {
	s := api.State{NextId: m.nextId, NextProc: m.nextProc, Taken: m.taken}
	for _, id := range rising(m.objects) {
		o := m.objects[id]
		s.Objects = append(s.Objects, api.Object{Id: id, Bytes: append([]byte(nil), o.bytes...)})
		s.Tokens = o.tell(s.Tokens, id, o.tokens[0], none)
	}
	for _, number := range rising(m.lists) {
		list := append([]api.Cap(nil), m.lists[number]...)
		s.Processes = append(s.Processes, api.Process{Number: number, List: list})
	}
	return s
}

// tell puts the subtree of a token behind those that were told: itself, then the subtree of each child, wholly, in the order in which they were issued.
func (o object) tell(told []api.Token, id int, t token, parent int) []api.Token {
	at := len(told)
	told = append(told, api.Token{Cap: api.Cap{Obj: id, Pass: t.pass}, Rights: t.rights, Parent: parent})
	for _, child := range o.tokens[1:] {
		if child.parent == t.pass {
			told = o.tell(told, id, child, at)
		}
	}
	return told
}
