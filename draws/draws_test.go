package draws_test

import (
	"math"
	"math/big"
	"math/rand"
	"slices"
	"testing"

	"sesame/api"
	"sesame/draws"
)

// numberOf and wordOf go by way of big numbers, so that a cut is reckoned otherwise than in the program.
func numberOf(w api.Word) *big.Int {
	n := new(big.Int).SetUint64(w.Hi)
	return n.Lsh(n, 64).Add(n, new(big.Int).SetUint64(w.Lo))
}

func wordOf(n *big.Int) api.Word {
	half := new(big.Int).Lsh(big.NewInt(1), 64)
	hi, lo := new(big.Int).DivMod(n, half, new(big.Int))
	return api.Word{Hi: hi.Uint64(), Lo: lo.Uint64()}
}

func bound(width int) *big.Int { return new(big.Int).Lsh(big.NewInt(1), uint(width)) }

func cutAll(l []api.Word, width int) []api.Word {
	var out []api.Word
	for _, w := range l {
		out = append(out, wordOf(new(big.Int).Mod(numberOf(w), bound(width))))
	}
	return out
}

// someWords has repeats among its words, and words of zeros and of ones.
func someWords(n int) []api.Word {
	r := rand.New(rand.NewSource(int64(n) + 4))
	l := make([]api.Word, n)
	for i := range l {
		switch r.Intn(6) {
		case 0:
			l[i] = api.Word{Hi: math.MaxUint64, Lo: math.MaxUint64}
		case 1:
			l[i] = api.Word{Lo: uint64(r.Intn(3))}
		case 2:
			l[i] = l[r.Intn(i+1)]
		default:
			l[i] = api.Word{Hi: r.Uint64(), Lo: r.Uint64()}
		}
	}
	return l
}

func mustNew(t *testing.T, l []api.Word, width int) *draws.Draws {
	t.Helper()
	d, code := draws.New(l, width)
	if d == nil || code != api.OK {
		t.Fatalf("P4.1: New(%d words, %d): %v, %d", len(l), width, d, code)
	}
	return d
}

func wantCounts(t *testing.T, d *draws.Draws, taken, left int) {
	t.Helper()
	if d.Taken() != taken || d.Left() != left {
		t.Fatalf("P4.3: taken %d, left %d; want %d, %d", d.Taken(), d.Left(), taken, left)
	}
}

func wantDraw(t *testing.T, d *draws.Draws, want api.Word, wantCode api.Errno) {
	t.Helper()
	if w, code := d.Draw(); w != want || code != wantCode {
		t.Fatalf("P4.2: Draw: %v, %d; want %v, %d", w, code, want, wantCode)
	}
}

// wantRest draws to the end, and thrice beyond it.
func wantRest(t *testing.T, d *draws.Draws, rest []api.Word) {
	t.Helper()
	all := d.Taken() + d.Left()
	for i, w := range rest {
		wantCounts(t, d, all-len(rest)+i, len(rest)-i)
		wantDraw(t, d, w, api.OK)
	}
	for range 3 {
		wantCounts(t, d, all, 0)
		wantDraw(t, d, api.Word{}, api.ErrDraws)
	}
	wantCounts(t, d, all, 0)
}

func wantSkip(t *testing.T, d *draws.Draws, n int, want api.Errno) {
	t.Helper()
	if code := d.Skip(n); code != want {
		t.Fatalf("P4.4: Skip(%d): %d, not %d", n, code, want)
	}
}

func TestNewRefuses(t *testing.T) { // P4.1
	many := make([]api.Word, 2*api.MaxDraws)
	widths := []int{math.MinInt, math.MinInt32, -128, -1, 0, 129, 130, 256, 257, math.MaxInt32, 1<<32 + 8, math.MaxInt}
	for _, width := range widths {
		for _, n := range []int{0, 1, api.MaxDraws, api.MaxDraws + 1, len(many)} {
			if d, code := draws.New(many[:n], width); d != nil || code != api.ErrWidth {
				t.Errorf("P4.1: New(%d words, %d): %v, %d", n, width, d, code)
			}
		}
	}
	for _, width := range []int{1, 8, 64, 127, 128} {
		for _, n := range []int{api.MaxDraws + 1, api.MaxDraws + 2, len(many)} {
			if d, code := draws.New(many[:n], width); d != nil || code != api.ErrMany {
				t.Errorf("P4.1: New(%d words, %d): %v, %d", n, width, d, code)
			}
		}
	}
}

func TestNewCutsEveryWidth(t *testing.T) { // P4.1
	l := someWords(40)
	for width := 1; width <= api.MaxWidth; width++ {
		d := mustNew(t, l, width)
		wantCounts(t, d, 0, len(l))
		wantRest(t, d, cutAll(l, width))
	}
}

func TestNewOfLengths(t *testing.T) { // P4.1
	for _, n := range []int{0, 1, 2, 3, 255, 256, api.MaxDraws - 1, api.MaxDraws} {
		l := someWords(n)
		d := mustNew(t, l, 77)
		wantCounts(t, d, 0, n)
		wantRest(t, d, cutAll(l, 77))
	}
	for _, none := range [][]api.Word{nil, {}, someWords(5)[:0]} {
		d := mustNew(t, none, 8)
		wantRest(t, d, nil)
		wantSkip(t, d, 0, api.OK)
		wantSkip(t, d, 1, api.ErrRange)
	}
}

// TestNewKeepsNothing: the list is neither changed nor kept, its spare room neither.
func TestNewKeepsNothing(t *testing.T) { // P4.1
	for _, width := range []int{1, 8, 100, 128} {
		l := someWords(20)
		before := slices.Clone(l)
		d := mustNew(t, l[:10], width)
		wantDraw(t, d, cutAll(before, width)[0], api.OK)
		d.Skip(0)
		if !slices.Equal(l, before) {
			t.Fatalf("P4.1: width %d: the list that was handed in has changed", width)
		}
		for i := range l {
			l[i] = api.Word{Hi: ^l[i].Hi, Lo: ^l[i].Lo}
		}
		changed := slices.Clone(l)
		wantRest(t, d, cutAll(before[:10], width))
		if !slices.Equal(l, changed) {
			t.Fatalf("P4.2: width %d: a draw has changed the list that was handed in", width)
		}
	}
}

func TestExamples(t *testing.T) { // P4.2, P4.3, P4.4
	d := mustNew(t, []api.Word{{Lo: 300}, {Hi: 5, Lo: 1}}, 8)
	wantDraw(t, d, api.Word{Lo: 44}, api.OK)
	wantCounts(t, d, 1, 1)
	wantDraw(t, d, api.Word{Lo: 1}, api.OK)
	wantDraw(t, d, api.Word{}, api.ErrDraws)
	wantDraw(t, d, api.Word{}, api.ErrDraws)
	wantCounts(t, d, 2, 0)
	wantSkip(t, d, 1, api.OK)
	wantDraw(t, d, api.Word{Lo: 1}, api.OK)
	wantSkip(t, d, 0, api.OK)
	wantDraw(t, d, api.Word{Lo: 44}, api.OK)
	wantSkip(t, d, 2, api.OK)
	wantDraw(t, d, api.Word{}, api.ErrDraws)
	wantSkip(t, d, 3, api.ErrRange)
	wantSkip(t, d, -1, api.ErrRange)
}

// TestSkipFromEach goes from every place to every other, onward, back, and on the spot.
func TestSkipFromEach(t *testing.T) { // P4.4, P4.5
	l := someWords(9)
	cut := cutAll(l, 70)
	for from := range len(l) + 1 {
		for to := range len(l) + 1 {
			d := mustNew(t, l, 70)
			for i := range from {
				wantDraw(t, d, cut[i], api.OK)
			}
			wantSkip(t, d, to, api.OK)
			wantCounts(t, d, to, len(l)-to)
			wantRest(t, d, cut[to:])
		}
	}
}

// TestSkipRefuses: a refusal changes nothing, wherever the draws stand.
func TestSkipRefuses(t *testing.T) { // P4.4
	for _, size := range []int{0, 1, 5, api.MaxDraws} {
		l := someWords(size)
		cut := cutAll(l, 9)
		wrong := []int{math.MinInt, math.MinInt + 1, math.MinInt32, -size - 1, -2, -1, size + 1, size + 2, api.MaxDraws + 1, math.MaxInt32, 1 << 32, math.MaxInt - 1, math.MaxInt}
		for _, at := range []int{0, size / 2, size} {
			d := mustNew(t, l, 9)
			wantSkip(t, d, at, api.OK)
			for _, n := range wrong {
				wantSkip(t, d, n, api.ErrRange)
				wantCounts(t, d, at, size-at)
			}
			wantRest(t, d, cut[at:])
			for _, n := range wrong {
				wantSkip(t, d, n, api.ErrRange)
				wantDraw(t, d, api.Word{}, api.ErrDraws)
			}
		}
	}
}

// TestRandomSteps holds draws and skips in any order against a list and a place in it.
func TestRandomSteps(t *testing.T) { // P4.5
	r := rand.New(rand.NewSource(45))
	for round := range 200 {
		size, width := r.Intn(12), 1+r.Intn(api.MaxWidth)
		l := someWords(size)
		cut := cutAll(l, width)
		d := mustNew(t, l, width)
		at := 0
		for range 60 {
			if r.Intn(3) == 0 {
				n := r.Intn(size+5) - 2
				code := d.Skip(n)
				if (code == api.OK) != (n >= 0 && n <= size) {
					t.Fatalf("P4.5: round %d: Skip(%d) of %d words: %d", round, n, size, code)
				}
				if code == api.OK {
					at = n
				}
			} else if at == size {
				wantDraw(t, d, api.Word{}, api.ErrDraws)
			} else {
				wantDraw(t, d, cut[at], api.OK)
				at++
			}
			wantCounts(t, d, at, size-at)
		}
	}
}

func TestDrawsFit(t *testing.T) { // P4.5
	l := someWords(100)
	for width := 1; width <= api.MaxWidth; width++ {
		d := mustNew(t, l, width)
		for range l {
			if w, code := d.Draw(); code != api.OK || numberOf(w).Cmp(bound(width)) >= 0 {
				t.Fatalf("P4.5: width %d: Draw: %v, %d", width, w, code)
			}
		}
	}
}

// TestTwoShareNothing: what is done to one of two draws, of one list or of lists that overlap, is not seen in the other.
func TestTwoShareNothing(t *testing.T) { // P4.5
	l := someWords(12)
	one, other, part := mustNew(t, l, 128), mustNew(t, l, 128), mustNew(t, l[3:7], 8)
	for range 5 {
		one.Draw()
	}
	wantCounts(t, other, 0, 12)
	wantCounts(t, part, 0, 4)
	wantSkip(t, other, 11, api.OK)
	wantCounts(t, one, 5, 7)
	wantRest(t, part, cutAll(l[3:7], 8))
	wantRest(t, one, l[5:])
	wantRest(t, other, l[11:])
	wantSkip(t, one, 0, api.OK)
	wantSkip(t, other, 0, api.OK)
	for range l {
		a, codeA := one.Draw()
		b, codeB := other.Draw()
		if a != b || codeA != codeB {
			t.Fatalf("P4.5: one list drawn twice: %v, %d and %v, %d", a, codeA, b, codeB)
		}
	}
}

// TestNewIsAlone: a list may be laid over and drawn from by hundreds of others, and a draw goes on as it was.
func TestNewIsAlone(t *testing.T) { // P4.5
	l := someWords(30)
	d := mustNew(t, l, 64)
	wantSkip(t, d, 10, api.OK)
	for i := range 300 {
		e := mustNew(t, someWords(i), 1+i%api.MaxWidth)
		e.Skip(i / 2)
		e.Draw()
		draws.New(l, 0)
		draws.New(make([]api.Word, api.MaxDraws+1), 5)
	}
	wantRest(t, d, cutAll(l[10:], 64))
}
