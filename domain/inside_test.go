package domain

import (
	"math/rand"
	"testing"

	"sesame/api"
)

// What was removed is kept nowhere, the list's spare room included.
func TestRemovedIsNotKept(t *testing.T) {
	chance := rand.New(rand.NewSource(17))
	l, _ := New(api.MaxList)
	for n := 1; n <= 2000; n++ {
		l.Add(api.Cap{Obj: n, Pass: api.Word{Hi: uint64(n), Lo: 1}})
		if l.Len() == api.MaxList || chance.Intn(3) == 0 {
			for range 1 + chance.Intn(l.Len()) {
				l.Remove(chance.Intn(l.Len()))
			}
		}
		for i, c := range l.caps[len(l.caps):cap(l.caps)] {
			if c != (api.Cap{}) {
				t.Fatalf("P17.3: %v is kept %d behind the last", c, i+1)
			}
		}
	}
}
