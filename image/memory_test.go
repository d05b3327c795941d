package image_test

import (
	"bytes"
	"slices"
	"testing"

	"sesame/api"
	"sesame/image"
)

// spoil writes over a list and its spare room.
func spoil[T any](list []T, by T) {
	for at := range list[:cap(list)] {
		list[:cap(list)][at] = by
	}
}

// roomy gives a list with spare room, which is filled.
func roomy[T any](list []T, by T) []T {
	out := append(slices.Clone(list), slices.Repeat([]T{by}, 9)...)
	return out[:len(list)]
}

// roomyState gives a state whose lists all have spare room.
func roomyState(s api.State) api.State {
	s = cloned(s)
	for at := range s.Objects {
		s.Objects[at].Bytes = roomy(s.Objects[at].Bytes, 0xee)
	}
	for at := range s.Processes {
		s.Processes[at].List = roomy(s.Processes[at].List, of(7, 7))
	}
	s.Objects = roomy(s.Objects, api.Object{Id: 77})
	s.Tokens = roomy(s.Tokens, api.Token{Rights: 77})
	s.Processes = roomy(s.Processes, api.Process{Number: 77})
	return s
}

// stretched gives a state whose lists have all their room, so that it can be looked at.
func stretched(s api.State) api.State {
	s.Objects, s.Tokens, s.Processes = slices.Clone(s.Objects[:cap(s.Objects)]), slices.Clone(s.Tokens[:cap(s.Tokens)]), slices.Clone(s.Processes[:cap(s.Processes)])
	for at, o := range s.Objects {
		s.Objects[at].Bytes = bytes.Clone(o.Bytes[:cap(o.Bytes)])
	}
	for at, p := range s.Processes {
		s.Processes[at].List = slices.Clone(p.List[:cap(p.List)])
	}
	return s
}

// spoilState writes over all lists of a state, and their spare room.
func spoilState(s api.State) {
	for _, o := range s.Objects[:cap(s.Objects)] {
		spoil(o.Bytes, 0xaa)
	}
	for _, p := range s.Processes[:cap(s.Processes)] {
		spoil(p.List, of(9, 9))
	}
	spoil(s.Objects, api.Object{Id: 99})
	spoil(s.Tokens, api.Token{Rights: 99})
	spoil(s.Processes, api.Process{Number: 99})
}

// P23.6: a state that is handed in stays as it is, its spare room too, and is not kept.
func TestStateStays(t *testing.T) {
	s := roomyState(full())
	before := stretched(s)
	image.Check(tight(), s, api.MaxDraws)
	b := laid(t, tight(), s)
	if !sameState(stretched(s), before) {
		t.Errorf("P23.6: the state was changed: %+v", s)
	}
	want := bytes.Clone(b)
	spoilState(s)
	if !bytes.Equal(b, want) || !bytes.Equal(b, plainBytes(tight(), full())) {
		t.Error("P23.6: the state was kept")
	}
}

// P23.6: bytes and draws that are handed in stay as they are, and are not kept.
func TestBytesStay(t *testing.T) {
	state := full()
	state.Objects, state.Tokens, state.NextId, state.Taken = state.Objects[:2], state.Tokens[:7], 6, 1
	b := roomy(laid(t, tight(), state), 0xee)
	draws := roomy(words(3, 4, 5), api.Word{Lo: 6})
	allBytes, allDraws := bytes.Clone(b[:cap(b)]), slices.Clone(draws[:cap(draws)])
	_, s, code := image.Parse(b)
	k, loadCode := image.Load(b, draws)
	if code != api.OK || loadCode != api.OK {
		t.Fatalf("P23.3: %d, %d", code, loadCode)
	}
	if !bytes.Equal(b[:cap(b)], allBytes) || !slices.Equal(draws[:cap(draws)], allDraws) {
		t.Error("P23.6: what was handed in has changed")
	}
	spoil(b, 0xaa)
	spoil(draws, api.Word{Lo: 99})
	if !sameState(s, state) || !sameState(k.State(), state) {
		t.Error("P23.6: the bytes were kept")
	}
	if got := k.Do(api.Call{Op: api.OpCreate}); got.Cap != of(6, 4) {
		t.Errorf("P23.6: the draws were kept: %+v", got)
	}
}

// P23.6: answers are new memory: written over, they change no other answer, and not the kernel.
func TestAnswersAreNew(t *testing.T) {
	b := laid(t, tight(), full())
	want := bytes.Clone(b)
	_, s, _ := image.Parse(b)
	_, other, _ := image.Parse(b)
	spoilState(s)
	if !sameState(other, full()) || !bytes.Equal(b, want) {
		t.Error("P23.6: two answers share memory")
	}
	spoil(b, 0xbb)
	if again := laid(t, tight(), full()); !bytes.Equal(again, want) {
		t.Errorf("P23.6: %x, want %x", again, want)
	}
	k, _ := image.Load(want, make([]api.Word, api.MaxDraws))
	saved := image.Save(k)
	spoil(saved, 0xcc)
	if !sameState(k.State(), full()) || !bytes.Equal(image.Save(k), want) {
		t.Error("P23.6: Save shares memory with the kernel")
	}
}

// P23.6: no two lists of one answer share memory, nor does a list's spare room with another list.
func TestListsApart(t *testing.T) {
	b := laid(t, tight(), full())
	for at := range full().Objects {
		_, s, _ := image.Parse(b)
		spoil(s.Objects[at].Bytes, 0xdd)
		s.Objects[at].Bytes = full().Objects[at].Bytes
		if !sameState(s, full()) {
			t.Errorf("P23.6: the bytes of object %d are shared", at)
		}
	}
	for at := range full().Processes {
		_, s, _ := image.Parse(b)
		spoil(s.Processes[at].List, of(9, 9))
		s.Processes[at].List = full().Processes[at].List
		if !sameState(s, full()) {
			t.Errorf("P23.6: the list of process %d is shared", at)
		}
	}
}

// P23.6: two kernels of one image have nothing in common.
func TestKernelsApart(t *testing.T) {
	state := full()
	state.Taken = 0
	b := laid(t, tight(), state)
	one, _ := image.Load(b, words(1))
	two, _ := image.Load(b, words(1))
	for _, c := range []api.Call{
		{Op: api.OpWrite, Cap: of(2, 1), Given: true, Off: 3, Data: []byte{7, 7}},
		{Op: api.OpRevoke, Cap: of(2, 255)},
		{Op: api.OpRemove, By: 4},
		{Op: api.OpExit},
	} {
		if got := one.Do(c); got.Code != api.OK {
			t.Fatalf("P21.2: %+v: %d", c, got.Code)
		}
	}
	if !sameState(two.State(), state) || !bytes.Equal(image.Save(two), b) {
		t.Errorf("P23.6: %+v", two.State())
	}
}
