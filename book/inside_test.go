package book

import (
	"testing"

	"sesame/api"
)

// What is kept is no more than the promises need: what is gone leaves but its tellings.
func TestNothingStays(t *testing.T) {
	b := New()
	for at := range 100 {
		x := api.Cap{Obj: at + 1, Pass: api.Word{Lo: 5}}
		f, _ := formOf(x)
		b.Note(api.Call{Op: api.OpCreate, Size: 100}, api.Reply{Cap: x})
		b.Note(api.Call{Op: api.OpWrite, Given: true, Cap: x, Data: f[:]}, api.Reply{})
		if len(b.laid) != 1 || len(b.laid[x.Obj]) != 1 {
			t.Fatalf("laid: %v", b.laid)
		}
		b.Note(api.Call{Op: []int{api.OpRevoke, api.OpDestroy}[at%2], Cap: x}, api.Reply{})
		b.Note(api.Call{Op: api.OpAdd, Cap: x}, api.Reply{})
		b.Note(api.Call{Op: api.OpSpawn, Gifts: []int{0}}, api.Reply{Number: at + 1})
		b.Note(api.Call{Op: api.OpExit, By: at + 1}, api.Reply{})
		b.Note(api.Call{Op: api.OpRemove}, api.Reply{})
	}
	if len(b.live) != 0 || len(b.laid) != 0 || len(b.lists) != 1 || len(b.lists[0]) != 0 {
		t.Errorf("%d objects live, %d laid in, lists %v", len(b.live), len(b.laid), b.lists)
	}
	if len(b.Known(0)) != 100 || len(b.Known(50)) != 1 {
		t.Errorf("%d and %d are known", len(b.Known(0)), len(b.Known(50)))
	}
}

// Of what is written only that is kept which may tell somebody something.
func TestOnlyTold(t *testing.T) {
	b := New()
	x := api.Cap{Obj: 1, Pass: api.Word{Lo: 5}}
	f, _ := formOf(x)
	b.Note(api.Call{Op: api.OpCreate, Size: 4096}, api.Reply{Cap: x})
	for off := range 3000 {
		b.Note(api.Call{Op: api.OpWrite, By: 1, Given: true, Cap: x, Off: off, Data: f[:]}, api.Reply{})
		b.Note(api.Call{Op: api.OpWrite, Given: true, Cap: x, Off: off, Data: make([]byte, 1000)}, api.Reply{})
	}
	if len(b.laid[1]) != 0 {
		t.Errorf("%d are kept", len(b.laid[1]))
	}
	b.Note(api.Call{Op: api.OpWrite, Given: true, Cap: x, Off: 8, Data: f[:]}, api.Reply{})
	b.Note(api.Call{Op: api.OpWrite, Given: true, Cap: x, Off: 8, Data: f[:]}, api.Reply{})
	if len(b.laid[1]) != 1 {
		t.Errorf("%d are kept", len(b.laid[1]))
	}
}

// A capability whose number is none has no form; others end a create's answer.
func TestFormOf(t *testing.T) {
	for obj, want := range map[int]bool{-1: false, 0: true, api.MaxId: true, api.MaxId + 1: false} {
		if f, has := formOf(api.Cap{Obj: obj, Pass: api.Word{Hi: 3, Lo: 258}}); has != want || has && (f[8] != 2 || f[9] != 1 || f[16] != 3 || f[7] != byte(obj>>56)) {
			t.Errorf("%d: %v, %v", obj, f, has)
		}
	}
	b := New()
	b.Note(api.Call{Op: api.OpCreate}, api.Reply{Cap: api.Cap{Obj: -1}})
	if b.Told(0, api.Cap{}) || b.Told(0, api.Cap{Obj: -1}) || len(b.Known(0)) != 0 {
		t.Errorf("what has no form was told: %v", b.Known(0))
	}
}
