package apart_test

import (
	"slices"
	"testing"

	"sesame/apart"
	"sesame/api"
)

func everything(api.Call, api.Reply, int) bool { return true }

// P25.2: where more is left out than the quiet calls, others see it: at which call they do.
func TestSeen(t *testing.T) {
	root := of(1, 5)
	begin := []api.Call{create(8), spawn()}
	for _, l := range []struct {
		what  string
		calls []api.Call
		want  int
	}{
		{"an object that is not made", []api.Call{by(1, create(8)), read(root, 0, 8), create(8), by(1, exit())}, 4},
		{"another password", []api.Call{by(1, derive(root, 1)), derive(root, 1)}, 3},
		{"another process's number", []api.Call{by(1, spawn()), read(root, 0, 8), spawn()}, 4},
		{"another code", []api.Call{by(1, derive(root, 1)), read(of(1, 6), 0, 8)}, 3},
		{"a token that stays", []api.Call{by(1, destroy(root)), read(root, 0, 8)}, 3},
		{"a draw that is not taken", []api.Call{by(1, create(8)), read(root, 0, 8), derive(root, 1), by(1, exit())}, 4},
		{"a write alone", []api.Call{by(1, write(root, 2, 7)), read(root, 0, 8)}, -1},
		{"an exit alone", []api.Call{by(1, exit()), create(8), read(root, 0, 8)}, -1},
		{"its own calls are nobody else's", []api.Call{by(1, add(root)), by(1, readNamed(1, 0, 8)), create(8)}, -1},
		{"one who sees nothing, one who does", []api.Call{by(1, spawn()), create(8), by(2, create(8))}, 4},
	} {
		calls := append(begin[:2:2], l.calls...)
		if got, code := apart.SeenBy(roomy(), words(5, 6, 7, 8), calls, 1, everything); code != api.OK || got != l.want {
			t.Errorf("P25.2: %s: seen at %d, %d, want %d", l.what, got, code, l.want)
		}
	}
}

// P25.2: so they do, where a refused call that took draws is left out.
func TestSeenRefused(t *testing.T) {
	root := of(1, 5)
	calls := []api.Call{create(8), spawn(), by(1, derive(root, 1)), read(root, 0, 8), derive(root, 1)}
	draws := append(slices.Repeat(words(5), 10), words(6)...)
	refused := func(_ api.Call, r api.Reply, _ int) bool { return r.Code != api.OK }
	if got, code := apart.SeenBy(roomy(), draws, calls, 1, refused); code != api.OK || got != 4 {
		t.Errorf("P25.2: seen at %d, %d, want 4", got, code)
	}
	wants(t, roomy(), draws, calls, 1, []int{0, 1, 2, 3, 4}, make([][]int, 5))
}

// P25.2: a call of p that stays in the rest may be answered otherwise there: that shows nobody anything.
func TestSeenByItself(t *testing.T) {
	root := of(1, 5)
	adds := func(c api.Call, _ api.Reply, _ int) bool { return c.Op == api.OpAdd }
	calls := []api.Call{create(8), spawn(), by(1, add(root)), by(1, readNamed(1, 0, 8)), by(1, writeNamed(1, 0, 7)), read(root, 0, 8)}
	if got, code := apart.SeenBy(roomy(), words(5), calls, 1, adds); code != api.OK || got != -1 {
		t.Errorf("P25.2: seen at %d, %d", got, code)
	}
	calls = append(calls, by(1, spawn(0)), create(8), by(2, readNamed(1, 0, 8)), spawn())
	if got, code := apart.SeenBy(roomy(), words(5, 6), calls, 1, adds); code != api.OK || got != 8 {
		t.Errorf("P25.2: seen at %d, %d, want 8: process 2 is not there", got, code)
	}
}

// P25.2: what another quietness answers is asked of the run of all alone, and of p's calls alone.
func TestAsked(t *testing.T) {
	calls := example()
	var heard []int
	asked := func(c api.Call, r api.Reply, taken int) bool {
		heard = append(heard, c.Op)
		if c.By != 1 || taken != 0 || c.Op == api.OpRead && len(r.Data) != 4 {
			t.Errorf("P25.2: asked of %+v, %+v, %d", c, r, taken)
		}
		return false
	}
	if got, code := apart.SeenBy(small(), words(1, 2, 3), calls, 1, asked); code != api.OK || got != -1 || len(heard) != 3 {
		t.Errorf("P25.2: seen at %d, %d; asked of %v", got, code, heard)
	}
}

// P25.2: which replies are the same, but for their stains.
func TestAlike(t *testing.T) {
	one := api.Reply{Data: []byte{1, 2, 3, 4}}
	for _, l := range []struct {
		x, y   api.Reply
		stains []int
		want   bool
	}{
		{api.Reply{}, api.Reply{}, nil, true},
		{api.Reply{}, api.Reply{Data: []byte{}}, nil, true},
		{api.Reply{Code: 1}, api.Reply{Code: 1}, nil, true},
		{api.Reply{Code: 1}, api.Reply{Code: 2}, nil, false},
		{api.Reply{Code: 1}, api.Reply{}, nil, false},
		{api.Reply{Cap: of(1, 5)}, api.Reply{Cap: of(1, 5)}, nil, true},
		{api.Reply{Cap: of(1, 5)}, api.Reply{Cap: of(2, 5)}, nil, false},
		{api.Reply{Cap: of(1, 5)}, api.Reply{Cap: of(1, 6)}, nil, false},
		{api.Reply{Number: 1}, api.Reply{Number: 2}, nil, false},
		{api.Reply{Number: 2}, api.Reply{Number: 2}, nil, true},
		{one, api.Reply{Data: []byte{1, 2, 3, 4}}, nil, true},
		{one, api.Reply{Data: []byte{1, 2, 3, 4}}, []int{0, 1, 2, 3}, true},
		{one, api.Reply{Data: []byte{9, 2, 3, 9}}, []int{0, 3}, true},
		{one, api.Reply{Data: []byte{9, 9, 9, 9}}, []int{0, 1, 2, 3}, true},
		{one, api.Reply{Data: []byte{1, 9, 3, 4}}, []int{0, 2, 3}, false},
		{one, api.Reply{Data: []byte{9, 2, 3, 4}}, []int{1, 2, 3}, false},
		{one, api.Reply{Data: []byte{1, 2, 3, 9}}, []int{0, 1, 2}, false},
		{one, api.Reply{Data: []byte{1, 2, 3}}, []int{0, 1, 2, 3}, false},
		{one, api.Reply{Data: []byte{1, 2, 3, 4, 5}}, []int{0, 1, 2, 3}, false},
		{one, api.Reply{Code: 3}, []int{0, 1, 2, 3}, false},
	} {
		if apart.Alike(l.x, l.y, l.stains) != l.want || apart.Alike(l.y, l.x, l.stains) != l.want {
			t.Errorf("P25.2: %+v, %+v but for %v: want %v", l.x, l.y, l.stains, l.want)
		}
	}
}
