package wide_test

import (
	"bytes"
	"fmt"
	"math"
	"math/big"
	"slices"
	"strings"
	"testing"

	"sesame/api"
	"sesame/wide"
)

const top = math.MaxUint64

var greatest = word(top, top)

func word(hi, lo uint64) api.Word { return api.Word{Hi: hi, Lo: lo} }

// number is a word's number, as a reckoning of another kind sees it.
func number(w api.Word) *big.Int {
	n := new(big.Int).SetUint64(w.Hi)
	n.Lsh(n, 64)
	return n.Or(n, new(big.Int).SetUint64(w.Lo))
}

func wordOf(n *big.Int) api.Word {
	return word(new(big.Int).Rsh(n, 64).Uint64(), new(big.Int).And(n, new(big.Int).SetUint64(top)).Uint64())
}

func power(width int) *big.Int {
	return new(big.Int).Lsh(big.NewInt(1), uint(width))
}

func parsed(t *testing.T, s string) api.Word {
	t.Helper()
	w, code := wide.Parse(s)
	if code != api.OK {
		t.Fatalf("Parse(%q): error %d", s, code)
	}
	return w
}

// words: every power of two with its neighbours, and some whose bytes are all unlike.
func words() []api.Word {
	seen := map[api.Word]bool{}
	var all []api.Word
	add := func(w api.Word) {
		if !seen[w] {
			seen[w] = true
			all = append(all, w)
		}
	}
	for bit := range 129 {
		for d := int64(-1); d <= 1; d++ {
			n := power(bit)
			n.Add(n, big.NewInt(d))
			if n.Cmp(power(128)) < 0 {
				add(wordOf(n))
			}
		}
	}
	for _, w := range []api.Word{word(0, 0), word(3, 5), word(1, 258), word(0x0123456789abcdef, 0xfedcba9876543210), word(0x8899aabbccddeeff, 0x0011223344556677), word(0xf0, 0xf), word(top, 0), word(0, top), greatest} {
		add(w)
	}
	// A fixed rule, so that every run sees the same words.
	x := uint64(1)
	step := func() uint64 { x = x*6364136223846793005 + 1442695040888963407; return x }
	for range 200 {
		w := word(step(), step())
		add(wide.Cut(w, int(step()>>57)+1))
		add(w)
	}
	return all
}

func widths() []int {
	all := []int{math.MinInt, math.MinInt32, -129, -128, -65, -64, -63, -2, -1, 129, 191, 192, 193, 255, 256, 257, 500, 1000, math.MaxInt32, math.MaxInt32 + 1, math.MaxInt}
	for w := range 129 {
		all = append(all, w)
	}
	return all
}

// wantFits says by numbers whether a word fits.
func wantFits(w api.Word, width int) bool {
	if width < 1 {
		return false
	}
	return width > 128 || number(w).Cmp(power(width)) < 0
}

func TestFitsExamples(t *testing.T) { // P1.1
	for _, c := range []struct {
		w     api.Word
		width int
		want  bool
	}{
		{word(0, 255), 8, true}, {word(0, 256), 8, false},
		{word(0, 0), 0, false}, {word(0, 0), -1, false}, {word(0, 0), math.MinInt, false}, {word(0, 0), 1, true},
		{word(0, 1), 1, true}, {word(0, 2), 1, false},
		{word(0, top), 64, true}, {word(0, top), 63, false}, {word(1, 0), 64, false}, {word(1, 0), 65, true}, {word(2, 0), 65, false},
		{greatest, 128, true}, {greatest, 127, false}, {greatest, 129, true}, {greatest, math.MaxInt, true}, {word(top>>1, top), 127, true},
	} {
		if got := wide.Fits(c.w, c.width); got != c.want {
			t.Errorf("P1.1: Fits(%v, %d) = %v", c.w, c.width, got)
		}
	}
}

func TestFitsAgainstNumbers(t *testing.T) { // P1.1
	for _, w := range words() {
		for _, width := range widths() {
			if got, want := wide.Fits(w, width), wantFits(w, width); got != want {
				t.Errorf("P1.1: Fits(%v, %d) = %v", w, width, got)
			}
		}
	}
}

func TestCutExamples(t *testing.T) { // P1.2
	for _, c := range []struct {
		w     api.Word
		width int
		want  api.Word
	}{
		{word(3, 5), 2, word(0, 1)}, {word(3, 5), 64, word(0, 5)}, {word(3, 5), 65, word(1, 5)}, {word(3, 5), 66, word(3, 5)},
		{word(3, 5), 0, word(0, 0)}, {word(3, 5), -1, word(0, 0)}, {word(3, 5), math.MinInt, word(0, 0)},
		{word(3, 5), 128, word(3, 5)}, {word(3, 5), 1000, word(3, 5)}, {word(3, 5), math.MaxInt, word(3, 5)},
		{greatest, 1, word(0, 1)}, {greatest, 63, word(0, top>>1)}, {greatest, 64, word(0, top)}, {greatest, 65, word(1, top)}, {greatest, 127, word(top>>1, top)}, {greatest, 128, greatest}, {greatest, 129, greatest},
	} {
		if got := wide.Cut(c.w, c.width); got != c.want {
			t.Errorf("P1.2: Cut(%v, %d) = %v", c.w, c.width, got)
		}
	}
}

func TestCutAgainstNumbers(t *testing.T) { // P1.2
	for _, w := range words() {
		for _, width := range widths() {
			want := w
			if width < 1 {
				want = word(0, 0)
			} else if width < 128 {
				want = wordOf(new(big.Int).Mod(number(w), power(width)))
			}
			if got := wide.Cut(w, width); got != want {
				t.Errorf("P1.2: Cut(%v, %d) = %v", w, width, got)
			}
		}
	}
}

func TestCmpExamples(t *testing.T) { // P1.3
	for _, c := range []struct {
		a, b api.Word
		want int
	}{
		{word(0, 9), word(1, 0), -1}, {word(1, 0), word(1, 0), 0}, {word(2, 0), word(1, 9), 1},
		{word(1, 2), word(1, 3), -1}, {word(1, 3), word(1, 2), 1}, {word(0, 0), word(0, 0), 0},
		{word(0, top), word(0, 1), 1}, {word(top, 0), word(1, 0), 1}, {word(0, 0), greatest, -1}, {greatest, greatest, 0},
	} {
		if got := wide.Cmp(c.a, c.b); got != c.want {
			t.Errorf("P1.3: Cmp(%v, %v) = %d", c.a, c.b, got)
		}
	}
}

func TestCmpAgainstNumbers(t *testing.T) { // P1.3
	all := words()
	for _, a := range all {
		for _, b := range all {
			if got := wide.Cmp(a, b); got != number(a).Cmp(number(b)) {
				t.Errorf("P1.3: Cmp(%v, %v) = %d", a, b, got)
			}
		}
	}
}

func TestBytes(t *testing.T) { // P1.4
	if got := wide.Bytes(word(1, 258)); !bytes.Equal(got, []byte{2, 1, 0, 0, 0, 0, 0, 0, 1, 0, 0, 0, 0, 0, 0, 0}) {
		t.Errorf("P1.4: Bytes({1, 258}) = % x", got)
	}
	for _, w := range words() {
		want := number(w).FillBytes(make([]byte, 16))
		slices.Reverse(want)
		if got := wide.Bytes(w); !bytes.Equal(got, want) {
			t.Errorf("P1.4: Bytes(%v) = % x", w, got)
		}
	}
}

func TestOf(t *testing.T) { // P1.4
	for n := range 16 {
		b := bytes.Repeat([]byte{0xa5}, n)
		if w, code := wide.Of(b); w != word(0, 0) || code != api.ErrShort {
			t.Errorf("P1.4: Of(%d bytes) = %v, %d", n, w, code)
		}
		// Bytes that a list has room for are none of its own.
		if w, code := wide.Of(bytes.Repeat([]byte{0xa5}, 40)[:n]); w != word(0, 0) || code != api.ErrShort {
			t.Errorf("P1.4: Of(%d bytes with room for more) = %v, %d", n, w, code)
		}
	}
	if w, code := wide.Of(nil); w != word(0, 0) || code != api.ErrShort {
		t.Errorf("P1.4: Of(nil) = %v, %d", w, code)
	}
	b := []byte{0x10, 0x32, 0x54, 0x76, 0x98, 0xba, 0xdc, 0xfe, 0xef, 0xcd, 0xab, 0x89, 0x67, 0x45, 0x23, 0x01}
	for more := range 20 {
		in := append(slices.Clone(b), bytes.Repeat([]byte{0xff}, more)...)
		if w, code := wide.Of(in); w != word(0x0123456789abcdef, 0xfedcba9876543210) || code != api.OK {
			t.Errorf("P1.4: Of(16 bytes and %d more) = %v, %d", more, w, code)
		}
	}
}

func TestText(t *testing.T) { // P1.5
	for _, c := range []struct {
		w    api.Word
		want string
	}{
		{word(0, 0), "0"}, {word(0, 9), "9"}, {word(0, 10), "a"}, {word(0, 15), "f"}, {word(0, 16), "10"}, {word(0, 255), "ff"},
		{word(0, top), strings.Repeat("f", 16)}, {word(1, 0), "10000000000000000"}, {greatest, strings.Repeat("f", 32)},
	} {
		if got := wide.Text(c.w); got != c.want {
			t.Errorf("P1.5: Text(%v) = %q", c.w, got)
		}
	}
	for _, w := range words() {
		if got, want := wide.Text(w), number(w).Text(16); got != want {
			t.Errorf("P1.5: Text(%v) = %q, not %q", w, got, want)
		}
	}
}

func TestParse(t *testing.T) { // P1.5
	for _, c := range []struct {
		s    string
		want api.Word
	}{
		{"0", word(0, 0)}, {"1", word(0, 1)}, {"9", word(0, 9)}, {"a", word(0, 10)}, {"f", word(0, 15)}, {"ff", word(0, 255)}, {"100", word(0, 256)},
		{"10000000000000000", word(1, 0)}, {"123456789abcdeffedcba9876543210", word(0x0123456789abcdef, 0xfedcba9876543210)},
		{strings.Repeat("f", 32), greatest}, {"1" + strings.Repeat("0", 31), word(1<<60, 0)},
	} {
		if w, code := wide.Parse(c.s); w != c.want || code != api.OK {
			t.Errorf("P1.5: Parse(%q) = %v, %d", c.s, w, code)
		}
	}
	for _, w := range words() {
		if got, code := wide.Parse(number(w).Text(16)); got != w || code != api.OK {
			t.Errorf("P1.5: Parse(%q) = %v, %d", number(w).Text(16), got, code)
		}
	}
}

func TestParseRefuses(t *testing.T) { // P1.5
	bad := []string{
		"", "00", "0f", "01", "000", "0" + strings.Repeat("f", 31), strings.Repeat("0", 32), strings.Repeat("0", 33), "0" + strings.Repeat("f", 32),
		"F", "fF", "A1", "g", "1g", "G", "0x1", "x", "-1", "+1", " 1", "1 ", "1 2", "1_0", "1.0", "\n", "1\n", "\x00", "1\x00", "é", "１", "\xff", "1\xff",
		strings.Repeat("f", 33), "1" + strings.Repeat("0", 32), strings.Repeat("f", 64), strings.Repeat("1", 100000),
	}
	for _, s := range bad {
		if w, code := wide.Parse(s); w != word(0, 0) || code != api.ErrText {
			t.Errorf("P1.5: Parse(%q) = %v, %d", s, w, code)
		}
	}
}

func TestParseEveryByte(t *testing.T) { // P1.5
	for b := range 256 {
		c := string([]byte{byte(b)})
		value := strings.Index("0123456789abcdef", c)
		for _, s := range []string{c, "1" + c, "1" + c + "2", strings.Repeat("1", 31) + c} {
			w, code := wide.Parse(s)
			if value < 0 {
				if w != word(0, 0) || code != api.ErrText {
					t.Errorf("P1.5: Parse(%q) = %v, %d", s, w, code)
				}
				continue
			}
			want, _ := new(big.Int).SetString(s, 16)
			if w != wordOf(want) || code != api.OK {
				t.Errorf("P1.5: Parse(%q) = %v, %d", s, w, code)
			}
		}
	}
}

func TestNextExamples(t *testing.T) { // P1.6
	for _, c := range []struct {
		w     api.Word
		width int
		want  api.Word
		more  bool
	}{
		{word(0, 0), 1, word(0, 1), true}, {word(0, 1), 1, word(0, 0), false}, {word(0, 2), 1, word(0, 0), false},
		{word(0, 0), 0, word(0, 0), false}, {word(0, 0), -1, word(0, 0), false}, {word(0, 7), math.MinInt, word(0, 0), false},
		{word(0, top), 63, word(0, 0), false}, {word(0, top), 64, word(0, 0), false}, {word(0, top), 65, word(1, 0), true}, {word(1, top), 65, word(0, 0), false},
		{word(top>>1, top), 127, word(0, 0), false}, {word(top>>1, top), 128, word(1<<63, 0), true}, {word(top>>1, top-1), 127, word(top>>1, top), true},
		{word(top, top-1), 128, greatest, true}, {greatest, 127, word(0, 0), false}, {greatest, 128, word(0, 0), false}, {greatest, 129, word(0, 0), false}, {greatest, 500, word(0, 0), false}, {greatest, math.MaxInt, word(0, 0), false},
		{word(5, top), 500, word(6, 0), true}, {word(top, top-1), 129, greatest, true},
	} {
		if got, more := wide.Next(c.w, c.width); got != c.want || more != c.more {
			t.Errorf("P1.6: Next(%v, %d) = %v, %v", c.w, c.width, got, more)
		}
	}
}

func TestNextAgainstNumbers(t *testing.T) { // P1.6
	for _, w := range words() {
		for _, width := range widths() {
			one := new(big.Int).Add(number(w), big.NewInt(1))
			var want api.Word
			more := width >= 1 && one.Cmp(power(min(width, 128))) < 0
			if more {
				want = wordOf(one)
			}
			if got, ok := wide.Next(w, width); got != want || ok != more {
				t.Errorf("P1.6: Next(%v, %d) = %v, %v", w, width, got, ok)
			}
		}
	}
}

func TestCutFits(t *testing.T) { // P1.7
	for _, w := range words() {
		for _, width := range widths() {
			if width < 1 {
				continue
			}
			cut := wide.Cut(w, width)
			if !wide.Fits(cut, width) || (cut == w) != wide.Fits(w, width) {
				t.Errorf("P1.7: Cut(%v, %d) = %v", w, width, cut)
			}
		}
	}
}

func TestThereAndBack(t *testing.T) { // P1.7
	for _, w := range words() {
		if got, code := wide.Of(wide.Bytes(w)); got != w || code != api.OK {
			t.Errorf("P1.7: Of(Bytes(%v)) = %v, %d", w, got, code)
		}
		if got := parsed(t, wide.Text(w)); got != w {
			t.Errorf("P1.7: Parse(Text(%v)) = %v", w, got)
		}
	}
	for i := range 16 {
		for v := range 256 {
			b := []byte("the sixteen ones")
			b[i] = byte(v)
			w, code := wide.Of(b)
			if got := wide.Bytes(w); !bytes.Equal(got, b) || code != api.OK {
				t.Errorf("P1.7: Bytes(Of(% x)) = % x, %d", b, got, code)
			}
		}
	}
	for n := range 0x1200 {
		if s := fmt.Sprintf("%x", n); wide.Text(parsed(t, s)) != s {
			t.Errorf("P1.7: Text(Parse(%q)) = %q", s, wide.Text(parsed(t, s)))
		}
	}
}

func TestCmpIsTheOrderOfTexts(t *testing.T) { // P1.7
	all := words()
	for _, a := range all {
		for _, b := range all {
			s, u := wide.Text(a), wide.Text(b)
			want := strings.Compare(s, u)
			if len(s) != len(u) {
				want = 1
				if len(s) < len(u) {
					want = -1
				}
			}
			got := wide.Cmp(a, b)
			if got != want || got != -wide.Cmp(b, a) || (got == 0) != (a == b) {
				t.Errorf("P1.7: Cmp(%v, %v) = %d, the texts say %d", a, b, got, want)
			}
		}
	}
	slices.SortFunc(all, wide.Cmp)
	for i := range len(all) - 1 {
		if number(all[i]).Cmp(number(all[i+1])) >= 0 {
			t.Errorf("P1.7: sorted, %v stands ahead of %v", all[i], all[i+1])
		}
	}
}

func TestNextGoesThroughAll(t *testing.T) { // P1.7
	for width := 1; width <= 12; width++ {
		w, more, n := word(0, 0), true, 0
		for more {
			if w != word(0, uint64(n)) || !wide.Fits(w, width) {
				t.Fatalf("P1.7: width %d: word %d is %v", width, n, w)
			}
			w, more = wide.Next(w, width)
			n++
		}
		if n != 1<<width {
			t.Errorf("P1.7: width %d has %d words", width, n)
		}
	}
	all := words()
	for _, w := range all {
		next, more := wide.Next(w, 128)
		for _, v := range all {
			if more && wide.Cmp(v, w) > 0 && wide.Cmp(v, next) < 0 {
				t.Errorf("P1.7: %v is between %v and %v", v, w, next)
			}
		}
		if more && wide.Cmp(next, w) != 1 {
			t.Errorf("P1.7: Next(%v, 128) = %v", w, next)
		}
	}
}

func TestMemory(t *testing.T) { // P1.8
	want := []byte{2, 1, 0, 0, 0, 0, 0, 0, 1, 0, 0, 0, 0, 0, 0, 0}
	first := wide.Bytes(word(1, 258))
	second := wide.Bytes(word(1, 258))
	for i := range first[:cap(first)] {
		first[:cap(first)][i] = 0xee
	}
	if third := wide.Bytes(word(1, 258)); !bytes.Equal(second, want) || !bytes.Equal(third, want) {
		t.Errorf("P1.8: lists share memory: % x, % x", second, third)
	}
	room := []byte("what is handed in is left as it was, its room too")
	before := slices.Clone(room)
	for n := range 20 {
		wide.Of(room[:n])
	}
	if !bytes.Equal(room, before) {
		t.Errorf("P1.8: Of changed what was handed in: %q", room)
	}
	in := slices.Clone(want)
	w, _ := wide.Of(in)
	clear(in)
	if got := wide.Bytes(w); !bytes.Equal(got, want) {
		t.Errorf("P1.8: the word hangs on the bytes that were handed in: % x", got)
	}
}
