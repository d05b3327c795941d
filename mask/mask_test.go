package mask_test

import (
	"math"
	"slices"
	"strings"
	"testing"

	"sesame/api"
	"sesame/mask"
)

// letter pairs each right with its letter, in the order that names have.
var letter = []struct {
	right int
	name  string
}{{api.Read, "r"}, {api.Write, "w"}, {api.Derive, "d"}, {api.Revoke, "v"}, {api.Destroy, "x"}}

// wrong masks: those beside the bounds, and those whose lowest bits alone would look like a mask.
func wrong() []int {
	all := []int{math.MinInt, math.MinInt + 1, math.MinInt + 31, math.MinInt32, math.MaxInt32, math.MaxInt - 31, math.MaxInt}
	for r := -300; r <= 300; r++ {
		all = append(all, r)
	}
	for bit := 5; bit < 63; bit++ {
		for _, low := range []int{0, 1, 5, 24, api.All} {
			all = append(all, 1<<bit+low, -1<<bit+low)
		}
	}
	return slices.DeleteFunc(all, func(r int) bool { return r >= 1 && r <= 31 })
}

// nameOf adds the letters of the rights that are taken off one by one, the greatest first.
func nameOf(r int) string {
	s := ""
	for i := len(letter) - 1; i >= 0; i-- {
		if r >= letter[i].right {
			s = letter[i].name + s
			r -= letter[i].right
		}
	}
	return s
}

func lettersAmong(a, b string) bool {
	for _, c := range a {
		if !strings.ContainsRune(b, c) {
			return false
		}
	}
	return true
}

func TestValid(t *testing.T) { // P3.1
	for r := 1; r <= 31; r++ {
		if !mask.Valid(r) {
			t.Errorf("P3.1: Valid(%d): false", r)
		}
	}
	for _, r := range wrong() {
		if mask.Valid(r) {
			t.Errorf("P3.1: Valid(%d): true", r)
		}
	}
}

func wantPart(t *testing.T, sub, r int, want bool) {
	t.Helper()
	if got := mask.Part(sub, r); got != want {
		t.Errorf("P3.2: Part(%d, %d): %v", sub, r, got)
	}
	if got := mask.Has(r, sub); got != want {
		t.Errorf("P3.2: Has(%d, %d): %v", r, sub, got)
	}
}

func TestPartExamples(t *testing.T) { // P3.2
	wantPart(t, 1, 3, true)
	for _, c := range [][2]int{{3, 1}, {0, 3}, {3, 0}, {0, 0}, {1, 33}, {33, 1}, {-31, 31}, {31, -31}, {-1, 31}, {1, -1}, {-1, -1}, {33, 33}, {32, 32}, {32, 63}} {
		wantPart(t, c[0], c[1], false)
	}
}

func TestPartByRights(t *testing.T) { // P3.2
	for sub := 1; sub <= 31; sub++ {
		for r := 1; r <= 31; r++ {
			want := true
			for _, l := range letter {
				if sub/l.right%2 == 1 && r/l.right%2 == 0 {
					want = false
				}
			}
			wantPart(t, sub, r, want)
		}
	}
}

func TestPartOfWrongMasks(t *testing.T) { // P3.2
	bad := wrong()
	for _, b := range bad {
		for r := range 32 {
			wantPart(t, b, r, false)
			wantPart(t, r, b, false)
		}
		wantPart(t, b, b, false)
	}
	for _, a := range bad {
		for _, b := range bad {
			if mask.Part(a, b) || mask.Has(a, b) {
				t.Fatalf("P3.2: of %d and %d, neither a mask, one is told a part", a, b)
			}
		}
	}
}

func TestNames(t *testing.T) { // P3.3
	for r, want := range map[int]string{1: "r", 2: "w", 4: "d", 8: "v", 16: "x", 31: "rwdvx", 5: "rd", 24: "vx", 0: "-"} {
		if got := mask.Names(r); got != want {
			t.Errorf("P3.3: Names(%d): %q, not %q", r, got, want)
		}
	}
	for r := 1; r <= 31; r++ {
		if got := mask.Names(r); got != nameOf(r) {
			t.Errorf("P3.3: Names(%d): %q, not %q", r, got, nameOf(r))
		}
	}
	for _, r := range wrong() {
		if r != 0 && mask.Names(r) != "" {
			t.Errorf("P3.3: Names(%d): %q", r, mask.Names(r))
		}
	}
}

// texts: all of at most 4 bytes out of the letters and some that are none.
func texts() []string {
	all := []string{""}
	for from, length := 0, 0; length < 4; length++ {
		to := len(all)
		for _, s := range all[from:to] {
			for _, c := range "rwdvx-R 0\x00" {
				all = append(all, s+string(c))
			}
		}
		from = to
	}
	return append(all,
		"rwdvx", "rwdxv", "wrdvx", "rwdvxr", "rwdvx-", "-rwdvx", " rwdvx", "rwdvx ", "rwdvx\n", "rwdvx\x00", "RWDVX", "rwdvz",
		"\xff", "r\xff", "é", "ŕ", "ｒ", "–", "1", "31", "0x1f", strings.Repeat("r", 1<<16), strings.Repeat("rwdvx", 1<<12))
}

func TestParse(t *testing.T) { // P3.4
	byName := map[string]int{"-": 0}
	for r := 1; r <= 31; r++ {
		byName[nameOf(r)] = r
	}
	for _, s := range texts() {
		want, there := byName[s]
		code := api.OK
		if !there {
			code = api.ErrText
		}
		if got, c := mask.Parse(s); got != want || c != code {
			t.Errorf("P3.4: Parse(%.20q): %d, %d, not %d, %d", s, got, c, want, code)
		}
	}
	for name, r := range byName {
		if got, c := mask.Parse(name); got != r || c != api.OK {
			t.Errorf("P3.4: Parse(%q): %d, %d, not %d", name, got, c, r)
		}
	}
	for _, s := range []string{"dr", "rr", "", "r-", "-r", "--", "R"} {
		if got, c := mask.Parse(s); got != 0 || c != api.ErrText {
			t.Errorf("P3.4: Parse(%q): %d, %d", s, got, c)
		}
	}
}

func TestNamesGoBack(t *testing.T) { // P3.5
	seen := map[string]int{}
	for r := range 32 {
		name := mask.Names(r)
		if other, there := seen[name]; there {
			t.Errorf("P3.5: %d and %d are both %q", other, r, name)
		}
		seen[name] = r
		if got, code := mask.Parse(name); got != r || code != api.OK {
			t.Errorf("P3.5: Parse(Names(%d)): %d, %d", r, got, code)
		}
	}
}

func TestPartIsAnOrder(t *testing.T) { // P3.5
	for a := -40; a <= 70; a++ {
		valid := a >= 1 && a <= 31
		if mask.Part(a, a) != valid {
			t.Errorf("P3.5: Part(%d, %d): %v", a, a, !valid)
		}
		if mask.Part(a, api.All) != valid {
			t.Errorf("P3.5: Part(%d, All): %v", a, !valid)
		}
		for b := -40; b <= 70; b++ {
			if a != b && mask.Part(a, b) && mask.Part(b, a) {
				t.Errorf("P3.5: %d and %d are parts of each other", a, b)
			}
			for c := 1; c <= 31; c++ {
				if mask.Part(a, b) && mask.Part(b, c) && !mask.Part(a, c) {
					t.Errorf("P3.5: Part(%d, %d) and Part(%d, %d), not Part(%d, %d)", a, b, b, c, a, c)
				}
			}
		}
	}
}

func TestPartByLetters(t *testing.T) { // P3.5
	for a := -40; a <= 70; a++ {
		for b := -40; b <= 70; b++ {
			want := mask.Valid(a) && mask.Valid(b) && lettersAmong(mask.Names(a), mask.Names(b))
			if mask.Part(a, b) != want {
				t.Errorf("P3.5: Part(%d, %d): %v, the letters are %q and %q", a, b, !want, mask.Names(a), mask.Names(b))
			}
		}
	}
}
