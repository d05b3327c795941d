// Package wide is layer 1: words of at most 128 bits, the widths they fit, their order, their bytes and their text.
package wide

import "sesame/api"

const (
	halfBits  = 64
	halfBytes = 8
	wordBytes = 16
	digitBits = 4
	maxDigits = 32
	digits    = "0123456789abcdef"
)

// kind says what a byte may be in a word's text.
type kind int

// A zero is a kind of its own, because it alone may not stand ahead of others.
const (
	other kind = iota
	zero
	figure
	letter
)

// Fits: is the number of w below 2^width?
func Fits(w api.Word, width int) bool {
	return width >= 1 && Cut(w, width) == w
}

// Cut gives the lowest width bits of w.
func Cut(w api.Word, width int) api.Word {
	switch {
	case width < 1:
		return api.Word{}
	case width >= api.MaxWidth:
		return w
	case width >= halfBits:
		return api.Word{Hi: lowest(w.Hi, width-halfBits), Lo: w.Lo}
	}
	return api.Word{Lo: lowest(w.Lo, width)}
}

// lowest gives the lowest n bits of a half, n from 0 to 63.
func lowest(half uint64, n int) uint64 {
	return half & (1<<n - 1)
}

// Cmp gives -1, 0 or 1, as a is less than, equal to or greater than b.
func Cmp(a api.Word, b api.Word) int {
	switch {
	case a == b:
		return 0
	case a.Hi < b.Hi, a.Hi == b.Hi && a.Lo < b.Lo:
		return -1
	}
	return 1
}

// Bytes gives the 16 bytes of w: Lo, then Hi, the lowest byte first.
func Bytes(w api.Word) []byte {
	b := make([]byte, wordBytes)
	layHalf(b[:halfBytes], w.Lo)
	layHalf(b[halfBytes:], w.Hi)
	return b
}

func layHalf(b []byte, half uint64) {
	for i := range halfBytes {
		b[i] = byte(half >> (8 * i))
	}
}

// Of gives the word whose Bytes the first 16 of b are.
func Of(b []byte) (api.Word, api.Errno) {
	if len(b) < wordBytes {
		return api.Word{}, api.ErrShort
	}
	return api.Word{Hi: halfOf(b[halfBytes:wordBytes]), Lo: halfOf(b[:halfBytes])}, api.OK
}

func halfOf(b []byte) uint64 {
	var half uint64
	for i := range halfBytes {
		half |= uint64(b[i]) << (8 * i)
	}
	return half
}

// Text gives the number of w in hexadecimal digits, without zeros ahead.
func Text(w api.Word) string {
	var text [maxDigits]byte
	at := maxDigits - 1
	text[at] = lastDigit(w)
	for w = withoutLast(w); w != (api.Word{}); w = withoutLast(w) {
		at--
		text[at] = lastDigit(w)
	}
	return string(text[at:])
}

func lastDigit(w api.Word) byte {
	return digits[lowest(w.Lo, digitBits)]
}

func withoutLast(w api.Word) api.Word {
	return api.Word{Hi: w.Hi >> digitBits, Lo: w.Lo>>digitBits | w.Hi<<(halfBits-digitBits)}
}

// Parse gives the word whose Text s is.
func Parse(s string) (api.Word, api.Errno) {
	if len(s) < 1 || len(s) > maxDigits {
		return api.Word{}, api.ErrText
	}
	if len(s) > 1 && kindOf(s[0]) == zero {
		return api.Word{}, api.ErrText
	}
	var w api.Word
	for i := range len(s) {
		k := kindOf(s[i])
		if k == other {
			return api.Word{}, api.ErrText
		}
		w = withDigit(w, valueOf(s[i], k))
	}
	return w, api.OK
}

func kindOf(b byte) kind {
	switch {
	case b == '0':
		return zero
	case '1' <= b && b <= '9':
		return figure
	case 'a' <= b && b <= 'f':
		return letter
	}
	return other
}

// valueOf gives a digit's number; what is no digit counts as nothing.
func valueOf(b byte, k kind) uint64 {
	switch k {
	case figure:
		return uint64(b - '0')
	case letter:
		return uint64(b-'a') + 10
	}
	return 0
}

func withDigit(w api.Word, value uint64) api.Word {
	return api.Word{Hi: w.Hi<<digitBits | w.Lo>>(halfBits-digitBits), Lo: w.Lo<<digitBits | value}
}

// Next gives the word that is one more than w, if both fit the width.
func Next(w api.Word, width int) (api.Word, bool) {
	next := oneMore(w)
	// If next fits, w does too; but the greatest of all words wraps round to zero.
	if !Fits(next, width) || next == (api.Word{}) {
		return api.Word{}, false
	}
	return next, true
}

func oneMore(w api.Word) api.Word {
	w.Lo++
	if w.Lo == 0 {
		w.Hi++
	}
	return w
}
