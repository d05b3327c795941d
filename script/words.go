package script

import (
	"math"
	"strconv"
	"strings"

	"sesame/api"
	"sesame/mask"
	"sesame/wide"
)

const (
	nothing = "-"
	comma   = ","
	digits  = "0123456789abcdef"
)

// integer reads a number. It is told again and held against the word, so that each number has one text alone.
func integer(word string) (int, bool) {
	n, err := strconv.Atoi(word)
	return n, err == nil && strconv.Itoa(n) == word
}

func number(word string) (int, bool) {
	n, ok := integer(word)
	return n, ok && math.MinInt32 <= n && n <= math.MaxInt32
}

func object(word string) (int, bool) {
	n, ok := integer(word)
	return n, ok && 0 <= n && n <= api.MaxId
}

func password(word string) (api.Word, bool) {
	w, code := wide.Parse(word)
	return w, code == api.OK
}

func rights(word string) (int, bool) {
	r, code := mask.Parse(word)
	return r, code == api.OK
}

// listed reads items with commas between.
func listed[T any](word string, item func(string) (T, bool)) ([]T, bool) {
	if word == nothing {
		return nil, true
	}
	var out []T
	for _, part := range strings.Split(word, comma) {
		x, ok := item(part)
		if !ok {
			return nil, false
		}
		out = append(out, x)
	}
	return out, true
}

// data reads bytes, two digits each.
func data(word string) ([]byte, bool) {
	if word == nothing {
		return nil, true
	}
	if len(word)%2 != 0 {
		return nil, false
	}
	out := make([]byte, 0, len(word)/2)
	for at := 0; at < len(word); at += 2 {
		high, low := strings.IndexByte(digits, word[at]), strings.IndexByte(digits, word[at+1])
		if high < 0 || low < 0 {
			return nil, false
		}
		out = append(out, byte(high<<4|low))
	}
	return out, true
}
