package catalogue

import (
	"math/rand"
	"reflect"
	"slices"
	"testing"

	"sesame/api"
)

// wantInside holds the two parts against each other, and what is free against nothing.
func wantInside(t *testing.T, c *Catalogue) {
	t.Helper()
	many := 0
	for n, e := range c.entries {
		at, there := c.number(e.is)
		if !c.has(n) {
			if e != (entry{}) {
				t.Fatalf("P11.5: number %d is free and keeps %v", n, e)
			}
			continue
		}
		many++
		if at != n || !there {
			t.Fatalf("P11.4: %v has the number %d, not %d (%v)", e.is, at, n, there)
		}
		if above := c.parent(n); above != none && (!c.has(above) || c.entries[above].is.Obj != e.is.Obj || e.rights&^c.entries[above].rights != 0) {
			t.Fatalf("P11.8: %v below %v", e, c.entries[above])
		}
	}
	if c.count() != many {
		t.Fatalf("P11.7: the table has %d tokens, the tree %d", c.count(), many)
	}
}

// TestPartsAgree: table and tree hold the same numbers, in any past, and keep nothing of what was dropped.
func TestPartsAgree(t *testing.T) { // P11.5, P11.8
	r := rand.New(rand.NewSource(118))
	for _, most := range []int{1, 2, 4, 9, 30} {
		c, _ := New(most, r.Intn(65))
		for range 400 {
			x := api.Cap{Obj: r.Intn(3), Pass: api.Word{Lo: uint64(r.Intn(most))}}
			switch r.Intn(4) {
			case 0:
				c.Drop(r.Intn(most+2) - 1)
			case 1:
				c.Root(x, r.Intn(33))
			default:
				c.Child(r.Intn(most+2)-1, x, r.Intn(33))
			}
			wantInside(t, c)
		}
		for n := range most {
			c.Drop(n)
		}
		wantInside(t, c)
		if c.Count() != 0 {
			t.Fatalf("P11.5: %d tokens are left", c.Count())
		}
	}
}

// TestFace: nothing is promoted out of the package: no part can be changed without the other.
func TestFace(t *testing.T) { // P11.8
	want := []string{"At", "Child", "Count", "Drop", "Find", "In", "Of", "Root"}
	var got []string
	of := reflect.TypeOf(&Catalogue{})
	for i := range of.NumMethod() {
		got = append(got, of.Method(i).Name)
	}
	if !slices.Equal(got, want) {
		t.Errorf("P11.8: methods %v, not %v", got, want)
	}
	for i := range of.Elem().NumField() {
		if f := of.Elem().Field(i); f.IsExported() {
			t.Errorf("P11.8: the part %s may be reached from outside", f.Name)
		}
	}
}
