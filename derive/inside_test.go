package derive

import (
	"errors"
	"testing"

	"sesame/api"
	"sesame/catalogue"
	"sesame/draws"
	"sesame/quota"
)

// made gives what tokens are made with.
func made(t *testing.T) maker {
	t.Helper()
	d, first := draws.New([]api.Word{{Lo: 3}, {Lo: 3}}, 4)
	c, second := catalogue.New(2, 64)
	q, third := quota.New(2, 2)
	if first != api.OK || second != api.OK || third != api.OK {
		t.Fatalf("the layers below: %d, %d, %d", first, second, third)
	}
	return maker{d, c, q}
}

// TestRefusalsAreWrapped: the error that is met tells its step, and has its number inside, behind one layer of wrapping or several. (The chapter's section Ways.)
func TestRefusalsAreWrapped(t *testing.T) {
	m := made(t)
	m.root(1)
	token := api.Cap{Obj: 1, Pass: api.Word{Lo: 3}}
	_, there := m.root(1)
	_, gone := m.child(api.Cap{}, api.Read)
	_, rights := m.child(token, 0)
	_, dry := m.child(token, api.Read)
	for _, met := range []struct {
		err  error
		text string
		code api.Errno
	}{
		{there, "object: error 19", api.ErrThere},
		{gone, "parent: error 3", api.ErrCap},
		{rights, "rights: error 4", api.ErrRights},
		{dry, "draw: error 11", api.ErrDraws},
		{checked("count", api.ErrQuota), "count: error 9", api.ErrQuota},
		{refusal{"outer", checked("inner", api.ErrEntry)}, "outer: inner: error 10", api.ErrEntry},
	} {
		if met.err == nil || met.err.Error() != met.text || number(met.err) != met.code {
			t.Errorf("P14.2: %v, number %d, want %q, %d", met.err, number(met.err), met.text, met.code)
			continue
		}
		if !errors.Is(met.err, reason{met.code}) || errors.Unwrap(met.err) == nil {
			t.Errorf("P14.2: %v does not wrap the number %d", met.err, met.code)
		}
	}
	if number(nil) != api.OK || checked("step", api.OK) != nil {
		t.Errorf("P14.2: no refusal: %d, %v", number(nil), checked("step", api.OK))
	}
}

// TestRefusedEntry: where the three do not fit, a catalogue may refuse what the quota lets in; then nothing is counted, and the number is handed on.
func TestRefusedEntry(t *testing.T) {
	m := made(t)
	m.tokens.Root(api.Cap{Obj: 8}, api.All)
	m.tokens.Root(api.Cap{Obj: 9}, api.All)
	x, err := m.root(1)
	if x != (api.Cap{}) || number(err) != api.ErrEntry || m.counts.All() != 0 {
		t.Errorf("a full catalogue: %v, %v, %d counted", x, err, m.counts.All())
	}
}
