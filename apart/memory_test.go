package apart_test

import (
	"slices"
	"testing"

	"sesame/apart"
	"sesame/api"
)

// spoil writes over a list and its spare room.
func spoil[T any](list []T, by T) {
	for at := range list[:cap(list)] {
		list[:cap(list)][at] = by
	}
}

// spare gives a list with spare room, which is filled.
func spare[T any](list []T, by T) []T {
	out := append(slices.Clone(list), slices.Repeat([]T{by}, 9)...)
	return out[:len(list)]
}

func sameCall(x, y api.Call) bool {
	data := slices.Equal(x.Data[:cap(x.Data)], y.Data[:cap(y.Data)])
	gifts := slices.Equal(x.Gifts[:cap(x.Gifts)], y.Gifts[:cap(y.Gifts)])
	x.Data, y.Data, x.Gifts, y.Gifts = nil, nil, nil, nil
	return data && gifts && x.Op == y.Op && x.By == y.By && x.Size == y.Size && x.Cap == y.Cap && x.Given == y.Given && x.Rights == y.Rights && x.Off == y.Off && x.N == y.N && x.Index == y.Index
}

// roomyCalls gives the chapter's calls, each list of them with spare room.
func roomyCalls() []api.Call {
	calls := slices.Insert(example(), 3, spawn(0, 0))
	for at := range calls {
		calls[at].Data = spare(calls[at].Data, 0xee)
		calls[at].Gifts = spare(calls[at].Gifts, 77)
	}
	return spare(calls, api.Call{Op: 99})
}

// P25.5: what is handed in stays as it is, its spare room too.
func TestHandedIn(t *testing.T) {
	calls, kept := roomyCalls(), roomyCalls()
	draws := spare(words(1, 2, 3), api.Word{Hi: 7})
	keptDraws := slices.Clone(draws[:cap(draws)])
	for p := range 3 {
		apart.Play(small(), draws, calls)
		apart.Rest(small(), draws, calls, p)
		apart.Stains(small(), draws, calls, p)
		apart.Seen(small(), draws, calls, p)
		if !slices.Equal(draws[:cap(draws)], keptDraws) || !slices.EqualFunc(calls[:len(calls)+9], kept[:len(kept)+9], sameCall) {
			t.Errorf("P25.5: %v, %+v", draws, calls)
		}
	}
}

// P25.5: the answers are new memory: to write over what was handed in doesn't change them.
func TestNotKept(t *testing.T) {
	w := tell(t, small(), words(1, 2, 3), roomyCalls())
	calls, draws := roomyCalls(), words(1, 2, 3)
	replies, taken, _ := apart.Play(small(), draws, calls)
	rest, _ := apart.Rest(small(), draws, calls, 1)
	stains, _ := apart.Stains(small(), draws, calls, 1)
	for _, c := range calls {
		spoil(c.Data, 0xaa)
		spoil(c.Gifts, 99)
	}
	spoil(calls, api.Call{Op: 99})
	spoil(draws, api.Word{Lo: 99})
	if !slices.EqualFunc(replies, w.replies, sameReply) || !slices.Equal(taken, w.taken) || !slices.Equal(rest, w.rest(1)) || !sameLists(stains, w.stains(1)) {
		t.Errorf("P25.5: %+v, %v, %v, %v", replies, taken, rest, stains)
	}
}

// P25.5: no two lists of an answer share memory, and none is an argument's: to write over one, with its spare room, changes no other.
func TestAnswered(t *testing.T) {
	calls, draws := roomyCalls(), words(1, 2, 3)
	w := tell(t, small(), draws, roomyCalls())
	for range 2 {
		replies, taken, _ := apart.Play(small(), draws, calls)
		for at := range replies {
			if !sameReply(replies[at], w.replies[at]) {
				t.Errorf("P25.5: reply %d: %+v", at, replies[at])
			}
			spoil(replies[at].Data, 0xbb)
		}
		spoil(replies, api.Reply{Code: 99})
		if !slices.Equal(taken, w.taken) {
			t.Errorf("P25.5: taken %v", taken)
		}
		spoil(taken, 99)
		rest, _ := apart.Rest(small(), draws, calls, 1)
		spoil(rest, 99)
		stains, _ := apart.Stains(small(), draws, calls, 1)
		for at := range stains {
			if !slices.Equal(stains[at], w.stains(1)[at]) {
				t.Errorf("P25.5: stains %d: %v", at, stains[at])
			}
			spoil(stains[at], 99)
		}
		spoil(stains, nil)
		w.holdsPlay()
		w.holds(1)
	}
	if !slices.EqualFunc(calls, roomyCalls(), sameCall) || !slices.Equal(draws, words(1, 2, 3)) {
		t.Errorf("P25.5: %+v, %v", calls, draws)
	}
}
