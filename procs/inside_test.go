package procs

import (
	"math/rand"
	"slices"
	"testing"
)

// The list keeps its order by itself, whatever order things come in, and for other kinds than numbers.
func TestOrdered(t *testing.T) {
	chance := rand.New(rand.NewSource(3))
	words := []string{"", "a", "aa", "b", "ba", "c", "d"}
	for range 300 {
		var o ordered[string]
		var want []string
		for range 30 {
			w := words[chance.Intn(len(words))]
			there := slices.Contains(want, w)
			if o.has(w) != there {
				t.Fatalf("has(%q): %v in %v", w, o.has(w), want)
			}
			if chance.Intn(2) == 0 {
				o.put(w)
				if !there {
					want = append(want, w)
				}
			} else {
				if o.drop(w) != there {
					t.Fatalf("drop(%q) in %v", w, want)
				}
				want = slices.DeleteFunc(want, func(v string) bool { return v == w })
			}
			slices.Sort(want)
			if !slices.Equal(o.all(), want) || o.many() != len(want) {
				t.Fatalf("%v, %d, want %v", o.all(), o.many(), want)
			}
			if o.below(w) != (len(want) == 0 || want[len(want)-1] < w) {
				t.Fatalf("below(%q): %v in %v", w, o.below(w), want)
			}
		}
	}
}
