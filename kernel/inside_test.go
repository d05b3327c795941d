package kernel

import (
	"testing"

	"sesame/api"
)

// What is kept is no more than the promises need: a process's list goes with it.
func TestListsGo(t *testing.T) {
	c := api.Config{Width: 8, Objects: 1, Pages: 1, Entries: 1, Quota: 1, Procs: 3, List: 2, Ways: 1}
	k, _ := New(c, nil)
	for range 100 {
		number := k.Do(api.Call{Op: api.OpSpawn}).Number
		k.Do(api.Call{Op: api.OpExit, By: number})
	}
	if len(k.lists) != 1 {
		t.Errorf("%d lists of one process", len(k.lists))
	}
	s := k.State()
	s.Processes = nil
	k, code := Load(c, nil, s)
	if code != api.OK || len(k.lists) != 0 {
		t.Errorf("%d: %d lists of no process", code, len(k.lists))
	}
}
