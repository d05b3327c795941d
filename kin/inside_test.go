package kin

import (
	"testing"

	"sesame/api"
)

// TestCutLeavesNothing: of a node that is cut nothing is kept, so that its number is as new.
func TestCutLeavesNothing(t *testing.T) { // P9.4
	k, code := New(5)
	if code != api.OK {
		t.Fatalf("P9.1: New(5): %d", code)
	}
	k.Root(2)
	for _, n := range []int{0, 3, 1} {
		k.Child(2, n)
	}
	k.Child(3, 4)
	for _, n := range []int{0, 4, 3, 1, 2} {
		if code := k.Cut(n); code != api.OK {
			t.Fatalf("P9.4: Cut(%d): %d", n, code)
		}
		if k.nodes[n] != (node{}) {
			t.Fatalf("P9.4: of %d is kept %+v", n, k.nodes[n])
		}
	}
}
