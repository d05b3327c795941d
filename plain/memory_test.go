package plain_test

import (
	"bytes"
	"slices"
	"testing"

	"sesame/api"
	"sesame/plain"
)

// roomyBytes gives bytes with spare room, which is filled.
func roomyBytes(data ...byte) []byte {
	out := append(data, bytes.Repeat([]byte{0xee}, 40)...)
	return out[:len(data)]
}

// spoil writes over a list and its spare room.
func spoil[T any](list []T, by T) {
	for at := range list[:cap(list)] {
		list[:cap(list)][at] = by
	}
}

// spoilState writes over all lists of a state, and their spare room.
func spoilState(s api.State) {
	for _, o := range s.Objects {
		spoil(o.Bytes, 0xaa)
	}
	for _, p := range s.Processes {
		spoil(p.List, of(9, 9))
	}
	spoil(s.Objects, api.Object{Id: 77})
	spoil(s.Tokens, api.Token{Rights: 77})
	spoil(s.Processes, api.Process{Number: 77})
}

// cloned gives a state that shares nothing with another.
func cloned(s api.State) api.State {
	s.Objects, s.Tokens, s.Processes = slices.Clone(s.Objects), slices.Clone(s.Tokens), slices.Clone(s.Processes)
	for at := range s.Objects {
		s.Objects[at].Bytes = bytes.Clone(s.Objects[at].Bytes)
	}
	for at := range s.Processes {
		s.Processes[at].List = slices.Clone(s.Processes[at].List)
	}
	return s
}

// busy gives a model in which there is something of each kind.
func busy(t *testing.T) *plain.Model {
	t.Helper()
	m, code := plain.New(roomy(), words(5, 6, 7, 8, 9))
	if code != api.OK {
		t.Fatalf("P22.1: New: %d", code)
	}
	for _, c := range []api.Call{create(70), create(3), derive(of(1, 5), 31), derive(of(1, 7), 3), add(of(1, 5)), add(of(1, 7)), add(of(2, 6)), spawn(0, 1), spawn(2), write(of(1, 5), 1, 1, 2, 3)} {
		if reply := m.Do(c); reply.Code != api.OK {
			t.Fatalf("P22.1: Do(%+v): %d", c, reply.Code)
		}
	}
	return m
}

// P22.4: draws are neither changed nor kept, their spare room neither.
func TestDrawsStay(t *testing.T) {
	all := words(5, 6, 7, 8)
	draws := all[:2]
	m, _ := plain.New(small(), draws)
	first := m.Do(create(0))
	if !slices.Equal(all, words(5, 6, 7, 8)) {
		t.Errorf("P22.4: draws have changed: %v", all)
	}
	spoil(draws, api.Word{Lo: 99})
	if second := m.Do(create(0)); first.Cap != of(1, 5) || second.Cap != of(2, 6) {
		t.Errorf("P22.4: draws were kept: %+v, %+v", first, second)
	}
	if third := m.Do(derive(of(1, 5), 1)); third.Code != api.ErrDraws {
		t.Errorf("P22.4: spare room was drawn from: %+v", third)
	}
}

// P22.4: a call's lists are neither changed nor kept.
func TestCallsStay(t *testing.T) {
	m := busy(t)
	data := roomyBytes(4, 5, 6)
	if reply := m.Do(write(of(2, 6), 0, data...)); reply.Code != api.OK {
		t.Fatalf("P22.1: write: %d", reply.Code)
	}
	if whole := data[:cap(data)]; !bytes.Equal(whole[:3], []byte{4, 5, 6}) || whole[3] != 0xee {
		t.Errorf("P22.4: data has changed: %x", whole)
	}
	gifts := append(make([]int, 0, 8), 2, 0)
	spare := gifts[:8]
	spare[2] = 55
	number := m.Do(spawn(gifts...)).Number
	if !slices.Equal(gifts, []int{2, 0}) || spare[2] != 55 {
		t.Errorf("P22.4: gifts have changed: %v", spare)
	}
	before := cloned(m.State())
	spoil(data, 0xbb)
	spoil(gifts, 1)
	if !sameState(before, m.State()) {
		t.Error("P22.4: a call's lists were kept")
	}
	if list := before.Processes[number].List; !slices.Equal(list, []api.Cap{of(2, 6), of(1, 5)}) || !bytes.Equal(before.Objects[1].Bytes, []byte{4, 5, 6}) {
		t.Errorf("P22.1: %+v", before)
	}
	calls := []api.Call{create(3), write(of(1, 5), 0, data...)}
	plain.Run(small(), words(5), calls)
	if calls[0].Size != 3 || !bytes.Equal(calls[1].Data, []byte{0xbb, 0xbb, 0xbb}) {
		t.Errorf("P22.4: Run has changed its calls: %+v", calls)
	}
}

// P22.4: states and replies are new memory: written over, they change neither the model nor each other.
func TestAnswersAreNew(t *testing.T) {
	m := busy(t)
	before, other := cloned(m.State()), m.State()
	if !sameState(before, other) {
		t.Fatalf("P22.1: %+v, %+v", before, other)
	}
	spoilState(other)
	if !sameState(before, m.State()) {
		t.Errorf("P22.4: a state that was written over has changed the model: %+v", m.State())
	}
	one, two := m.Do(read(of(1, 5), 0, 5)), m.Do(read(of(1, 5), 1, 4))
	spoil(one.Data, 0xcc)
	if !bytes.Equal(two.Data, []byte{1, 2, 3, 0}) || !sameState(before, m.State()) {
		t.Errorf("P22.4: replies share memory: %x", two.Data)
	}
	replies, _ := plain.Run(roomy(), words(5), []api.Call{create(9), read(of(1, 5), 0, 4), read(of(1, 5), 0, 4), read(of(1, 5), 4, 4), read(of(1, 5), 9, 0)})
	for at := range replies {
		spoil(replies[at].Data, byte(at))
	}
	if !bytes.Equal(replies[1].Data, []byte{1, 1, 1, 1}) || !bytes.Equal(replies[2].Data, []byte{2, 2, 2, 2}) {
		t.Errorf("P22.4: lists of one answer share memory: %+v", replies)
	}
}

// P22.4: no two lists of one state share memory, nor does a list's spare room with another list.
func TestStateListsApart(t *testing.T) {
	whole := busy(t).State()
	for at := range whole.Processes {
		s := busy(t).State()
		spoil(s.Processes[at].List, of(9, 9))
		s.Processes[at].List = whole.Processes[at].List
		if !sameState(s, whole) {
			t.Errorf("P22.4: process %d's list shares memory: %+v", at, s)
		}
	}
	for at := range whole.Objects {
		s := busy(t).State()
		spoil(s.Objects[at].Bytes, 0xdd)
		s.Objects[at].Bytes = whole.Objects[at].Bytes
		if !sameState(s, whole) {
			t.Errorf("P22.4: object %d's bytes share memory: %+v", at, s)
		}
	}
}

// P22.4: a state that was told stays as it was, whatever is done later; a spawned process's list is its own.
func TestToldStays(t *testing.T) {
	m := busy(t)
	told := m.State()
	again := cloned(told)
	for _, c := range []api.Call{write(of(1, 5), 0, 9, 9, 9), remove(0), add(of(3, 3)), by(1, remove(1)), by(1, add(of(4, 4))), revoke(of(1, 7)), create(1), by(2, exit()), destroy(of(2, 6)), spawn()} {
		if reply := m.Do(c); reply.Code != api.OK {
			t.Fatalf("P22.1: Do(%+v): %d", c, reply.Code)
		}
	}
	if !sameState(told, again) {
		t.Errorf("P22.4: a told state has changed: %+v", told)
	}
	lists := m.State().Processes
	if !slices.Equal(lists[0].List, []api.Cap{of(1, 7), of(2, 6), of(3, 3)}) || !slices.Equal(lists[1].List, []api.Cap{of(1, 5), of(4, 4)}) {
		t.Errorf("P22.1: %+v", lists)
	}
}

// P22.4: two models have nothing in common.
func TestModelsApart(t *testing.T) {
	draws := words(5, 6, 7)
	one, _ := plain.New(roomy(), draws)
	two, _ := plain.New(roomy(), draws)
	fresh := two.State()
	for _, c := range []api.Call{create(3), derive(of(1, 5), 1), add(of(1, 5)), spawn(0), exit()} {
		one.Do(c)
	}
	if !sameState(fresh, two.State()) {
		t.Errorf("P22.4: %+v", two.State())
	}
	if reply := two.Do(create(1)); reply.Cap != of(1, 5) {
		t.Errorf("P22.4: %+v", reply)
	}
}
