package plain

import (
	"testing"

	"sesame/api"
)

// roomy: a Config in which little is refused.
func roomy() api.Config {
	return api.Config{Width: 8, Objects: 4, Pages: 8, Entries: 9, Quota: 9, Procs: 4, List: 4, Ways: 1}
}

// P22.1: behind the last object's number there is no object more, ahead of all that is named behind ErrFull; the numbers are too many to be gone through by calls.
func TestLastId(t *testing.T) {
	m, _ := New(roomy(), []api.Word{{Lo: 5}})
	m.nextId = api.MaxId
	if reply := m.Do(api.Call{Op: api.OpCreate, Size: 1}); reply.Code != api.OK || reply.Cap.Obj != api.MaxId {
		t.Errorf("the last number: %+v", reply)
	}
	if reply := m.Do(api.Call{Op: api.OpCreate, Size: 4097}); reply.Code != api.ErrSize {
		t.Errorf("behind the last number, a size that may not be: %+v", reply)
	}
	if reply := m.Do(api.Call{Op: api.OpCreate, Size: 4096}); reply.Code != api.ErrFull {
		t.Errorf("behind the last number: %+v", reply)
	}
	if s := m.State(); s.NextId != api.MaxId+1 || len(s.Objects) != 1 || s.Objects[0].Id != api.MaxId {
		t.Errorf("behind the last number: %+v", s)
	}
}

// A copy goes on by itself: neither sees what is done to the other.
func TestCopied(t *testing.T) {
	m, _ := New(roomy(), []api.Word{{Lo: 5}, {Lo: 6}})
	root := m.Do(api.Call{Op: api.OpCreate, Size: 2}).Cap
	next := m.copied()
	next.Do(api.Call{Op: api.OpWrite, Given: true, Cap: root, Data: []byte{7}})
	next.Do(api.Call{Op: api.OpDerive, Cap: root, Rights: 1})
	next.Do(api.Call{Op: api.OpAdd, Cap: root})
	next.Do(api.Call{Op: api.OpSpawn})
	s := m.State()
	if s.Objects[0].Bytes[0] != 0 || len(s.Tokens) != 1 || len(s.Processes) != 1 || len(s.Processes[0].List) != 0 || s.Taken != 1 {
		t.Errorf("%+v", s)
	}
	m.Do(api.Call{Op: api.OpDestroy, Cap: root})
	if s = next.State(); len(s.Objects) != 1 || s.Objects[0].Bytes[0] != 7 || len(s.Tokens) != 2 || len(s.Processes) != 2 {
		t.Errorf("%+v", s)
	}
}

// What is kept is no more than the promises need: what is gone leaves nothing in the maps.
func TestNothingStays(t *testing.T) {
	m, _ := New(roomy(), make([]api.Word, 100))
	for range 100 {
		root := m.Do(api.Call{Op: api.OpCreate, Size: 2}).Cap
		m.Do(api.Call{Op: api.OpRevoke, Cap: root})
		number := m.Do(api.Call{Op: api.OpSpawn}).Number
		m.Do(api.Call{Op: api.OpExit, By: number})
	}
	if len(m.objects) != 0 || len(m.lists) != 1 {
		t.Errorf("%d objects, %d lists", len(m.objects), len(m.lists))
	}
}
