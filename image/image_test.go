package image_test

import (
	"bytes"
	"encoding/hex"
	"slices"
	"strings"
	"testing"

	"sesame/api"
	"sesame/image"
)

// of gives a capability with a small word.
func of(obj int, word uint64) api.Cap { return api.Cap{Obj: obj, Pass: api.Word{Lo: word}} }

// token gives a token of object 1.
func token(word uint64, rights, parent int) api.Token {
	return api.Token{Cap: of(1, word), Rights: rights, Parent: parent}
}

// example: the Config C of the chapter.
func example() api.Config {
	return api.Config{Width: 128, Objects: 2, Pages: 4, Entries: 8, Quota: 4, Procs: 2, List: 4, Ways: 1, Knob: 64}
}

// fresh: the State S of the chapter, a new kernel's.
func fresh() api.State {
	return api.State{Processes: []api.Process{{}}, NextId: 1, NextProc: 1}
}

// tight: a Config that full() fills to the last place.
func tight() api.Config {
	return api.Config{Width: 8, Objects: 3, Pages: 67, Entries: 8, Quota: 6, Procs: 3, List: 2, Sets: 16, Ways: 4, Knob: 64}
}

// full: a state with something of each kind, at the bounds of tight().
func full() api.State {
	return api.State{
		Objects: []api.Object{{Id: 2, Bytes: pattern(4096)}, {Id: 5, Bytes: pattern(129)}, {Id: api.MaxId}},
		Tokens: []api.Token{
			{Cap: of(2, 1), Rights: 31, Parent: -1},
			{Cap: of(2, 255), Rights: 15, Parent: 0},
			{Cap: of(2, 2), Rights: 7, Parent: 1},
			{Cap: of(2, 3), Rights: 5, Parent: 2},
			{Cap: of(2, 4), Rights: 8, Parent: 1},
			{Cap: of(2, 0), Rights: 31, Parent: 0},
			{Cap: of(5, 1), Rights: 31, Parent: -1},
			{Cap: of(api.MaxId, 255), Rights: 31, Parent: -1},
		},
		Processes: []api.Process{
			{Number: 0},
			{Number: 4, List: []api.Cap{of(2, 1), of(2, 1)}},
			{Number: api.MaxNumber, List: []api.Cap{of(0, 0), of(api.MaxId, 255)}},
		},
		NextId:   api.MaxId + 1,
		NextProc: api.MaxNumber + 1,
		Taken:    api.MaxDraws,
	}
}

// pattern gives bytes whose neighbours, and whose pages, are unlike.
func pattern(n int) []byte {
	out := make([]byte, n)
	for at := range out {
		out[at] = byte(at + at/64 + 1)
	}
	return out
}

// cloned gives a state that shares nothing with another.
func cloned(s api.State) api.State {
	s.Objects, s.Tokens, s.Processes = slices.Clone(s.Objects), slices.Clone(s.Tokens), slices.Clone(s.Processes)
	for at := range s.Objects {
		s.Objects[at].Bytes = bytes.Clone(s.Objects[at].Bytes)
	}
	for at := range s.Processes {
		s.Processes[at].List = slices.Clone(s.Processes[at].List)
	}
	return s
}

// sameState: lists of no item may be nil or empty.
func sameState(a, b api.State) bool {
	return a.NextId == b.NextId && a.NextProc == b.NextProc && a.Taken == b.Taken &&
		slices.EqualFunc(a.Objects, b.Objects, func(x, y api.Object) bool { return x.Id == y.Id && bytes.Equal(x.Bytes, y.Bytes) }) &&
		slices.Equal(a.Tokens, b.Tokens) &&
		slices.EqualFunc(a.Processes, b.Processes, func(x, y api.Process) bool {
			return x.Number == y.Number && slices.Equal(x.List, y.List)
		})
}

func isZero(s api.State) bool { return sameState(s, api.State{}) }

// unhex gives the bytes of hexadecimal digits; blanks are for the eye.
func unhex(t testing.TB, s string) []byte {
	t.Helper()
	b, err := hex.DecodeString(strings.ReplaceAll(s, " ", ""))
	if err != nil {
		t.Fatal(err)
	}
	return b
}

// laid gives a state's bytes, which are to be there.
func laid(t testing.TB, c api.Config, s api.State) []byte {
	t.Helper()
	b, code := image.Bytes(c, s)
	if code != api.OK {
		t.Fatalf("P23.2: Bytes: %d", code)
	}
	return b
}

// P23.2, P23.3: the chapter's examples 1 and 4.
func TestExampleForm(t *testing.T) {
	want := unhex(t, "736573616d652031 8000 0200 0400 0800 0400 0200 0400 0000 0100 4000 0100000000000000 01000000 0000 0000 0000 0100 0000 00")
	if b := laid(t, example(), fresh()); !bytes.Equal(b, want) || len(b) != 51 {
		t.Errorf("P23.2: %x, want %x", b, want)
	}
	c, s, code := image.Parse(want)
	if code != api.OK || c != example() || !sameState(s, fresh()) {
		t.Errorf("P23.3: %+v, %+v, %d", c, s, code)
	}
	for _, b := range [][]byte{want[:50], append(bytes.Clone(want), 0), append([]byte("sesame 2"), want[8:]...)} {
		if c, s, code := image.Parse(b); code != api.ErrImage || c != (api.Config{}) || !isZero(s) {
			t.Errorf("P23.3: %x: %+v, %+v, %d", b, c, s, code)
		}
	}
}

// P23.2, P23.3: a form with something of each kind, byte by byte.
func TestWholeForm(t *testing.T) {
	c := api.Config{Width: 100, Objects: 64, Pages: 256, Entries: 255, Quota: 254, Procs: 32, List: 31, Sets: 16, Ways: 4, Knob: 63}
	s := api.State{
		Objects: []api.Object{{Id: 0x0102030405060708, Bytes: []byte{9, 8, 7}}, {Id: api.MaxId}},
		Tokens: []api.Token{
			{Cap: api.Cap{Obj: 0x0102030405060708, Pass: api.Word{Hi: 0xfa0b0c0d0, Lo: 0xe1e2e3e4e5e6e7e8}}, Rights: 31, Parent: -1},
			{Cap: of(0x0102030405060708, 5), Rights: 6, Parent: 0},
			{Cap: of(0x0102030405060708, 6), Rights: 2, Parent: 1},
			{Cap: of(api.MaxId, 5), Rights: 31, Parent: -1},
		},
		Processes: []api.Process{{Number: 3, List: []api.Cap{of(0, 1), {Obj: api.MaxId, Pass: api.Word{Hi: 2, Lo: 3}}}}, {Number: 0xabcd}},
		NextId:    api.MaxId + 1,
		NextProc:  api.MaxNumber + 1,
		Taken:     0x0102,
	}
	want := unhex(t, "736573616d652031"+
		"6400 4000 0001 ff00 fe00 2000 1f00 1000 0400 3f00"+
		"0100000000000040 00000100 0201"+
		"0200 0807060504030201 0300 090807 0000000000000040 0000"+
		"0400"+
		"0807060504030201 e8e7e6e5e4e3e2e1 d0c0b0a00f000000 1f ffff"+
		"0807060504030201 0500000000000000 0000000000000000 06 0000"+
		"0807060504030201 0600000000000000 0000000000000000 02 0100"+
		"0000000000000040 0500000000000000 0000000000000000 1f ffff"+
		"0200 0300 02"+
		"0000000000000000 0100000000000000 0000000000000000"+
		"0000000000000040 0300000000000000 0200000000000000"+
		"cdab 00")
	if got := laid(t, c, s); !bytes.Equal(got, want) {
		t.Fatalf("P23.2: %x, want %x", got, want)
	}
	gotC, gotS, code := image.Parse(want)
	if code != api.OK || gotC != c || !sameState(gotS, s) {
		t.Errorf("P23.3: %+v, %+v, %d", gotC, gotS, code)
	}
}

// P23.2: Bytes refuses just what Check refuses with MaxDraws draws, with no bytes.
func TestBytesRefuses(t *testing.T) {
	for taken, want := range map[int]api.Errno{0: api.OK, api.MaxDraws: api.OK, api.MaxDraws + 1: api.ErrImage, -1: api.ErrImage, 65536: api.ErrImage, 65535: api.ErrImage} {
		s := fresh()
		s.Taken = taken
		if b, code := image.Bytes(example(), s); code != want || (len(b) > 0) != (want == api.OK) {
			t.Errorf("P23.2: Taken %d: %x, %d, want %d", taken, b, code, want)
		}
	}
	for _, x := range broken() {
		c, s := tight(), full()
		x.spoil(&c, &s)
		if b, code := image.Bytes(c, s); code != api.ErrImage || len(b) != 0 {
			t.Errorf("P23.2: %s: %d bytes, %d", x.what, len(b), code)
		}
	}
}

// P23.5: no other beginning of an image is one, nor it with bytes behind.
func TestBeginnings(t *testing.T) {
	s := full()
	s.Objects[0].Bytes = pattern(70)
	for _, b := range [][]byte{laid(t, example(), fresh()), laid(t, tight(), s), laid(t, tight(), api.State{NextId: 1, NextProc: 1})} {
		for n := range b {
			if c, s, code := image.Parse(b[:n]); code != api.ErrImage || c != (api.Config{}) || !isZero(s) {
				t.Fatalf("P23.5: %d of %d bytes: %+v, %+v, %d", n, len(b), c, s, code)
			}
		}
		for _, more := range [][]byte{{0}, {255}, {0, 0}, make([]byte, 100), b} {
			if _, _, code := image.Parse(slices.Concat(b, more)); code != api.ErrImage {
				t.Errorf("P23.5: %d bytes behind: %d", len(more), code)
			}
			if _, _, code := image.Parse(slices.Concat(more, b)); code != api.ErrImage {
				t.Errorf("P23.5: %d bytes ahead: %d", len(more), code)
			}
		}
	}
}

// P23.3: each number of the form, laid as no state has it.
func TestParseRefuses(t *testing.T) {
	c, s := example(), fresh()
	s.Objects, s.NextId = []api.Object{{Id: 1, Bytes: []byte{7}}}, 2
	s.Tokens = []api.Token{token(5, 31, -1), token(6, 3, 0)}
	s.Processes[0].List = []api.Cap{of(1, 5)}
	good := laid(t, c, s)
	// the places, from the form: the Config from 8 on, NextId 28, NextProc 36, Taken 40, objects 42, tokens 55, processes 111
	for _, x := range []struct {
		what string
		at   int
		with string
		code api.Errno
	}{
		{"itself", 0, "73", api.OK},
		{"another mark", 0, "72", api.ErrImage},
		{"another mark", 0, "53", api.ErrImage},
		{"another mark", 7, "32", api.ErrImage},
		{"Width 0", 8, "0000", api.ErrImage},
		{"Width 129", 8, "8100", api.ErrImage},
		{"Width 3", 8, "0300", api.OK},
		{"Width 2", 8, "0200", api.ErrImage},
		{"Knob 65", 26, "4100", api.ErrImage},
		{"Knob 65535", 26, "ffff", api.ErrImage},
		{"Knob 0", 26, "0000", api.OK},
		{"NextId 0", 28, "0000000000000000", api.ErrImage},
		{"NextId 1", 28, "0100000000000000", api.ErrImage},
		{"NextId 2^62 + 1", 28, "0100000000000040", api.OK},
		{"NextId 2^62 + 2", 28, "0200000000000040", api.ErrImage},
		{"NextId 2^63 + 2", 28, "0200000000000080", api.ErrImage},
		{"NextId 2^64 - 1", 28, "ffffffffffffffff", api.ErrImage},
		{"NextProc 0", 36, "00000000", api.ErrImage},
		{"NextProc 65536", 36, "00000100", api.OK},
		{"NextProc 65537", 36, "01000100", api.ErrImage},
		{"NextProc 2^31", 36, "00000080", api.ErrImage},
		{"NextProc 2^32 - 1", 36, "ffffffff", api.ErrImage},
		{"Taken 4096", 40, "0010", api.OK},
		{"Taken 4097", 40, "0110", api.ErrImage},
		{"Taken 65535", 40, "ffff", api.ErrImage},
		{"no object", 42, "0000", api.ErrImage},
		{"two objects", 42, "0200", api.ErrImage},
		{"65535 objects", 42, "ffff", api.ErrImage},
		{"Id 0", 44, "0000000000000000", api.ErrImage},
		{"Id 2^62 + 1", 44, "0100000000000040", api.ErrImage},
		{"Id 2^63 + 1", 44, "0100000000000080", api.ErrImage},
		{"no byte", 52, "0000", api.ErrImage},
		{"4097 bytes", 52, "0110", api.ErrImage},
		{"65535 bytes", 52, "ffff", api.ErrImage},
		{"another byte", 54, "ff", api.OK},
		{"one token", 55, "0100", api.ErrImage},
		{"257 tokens", 55, "0101", api.ErrImage},
		{"another object's token", 57, "0200000000000000", api.ErrImage},
		{"a token's object 2^63 + 1", 57, "0100000000000080", api.ErrImage},
		{"another word", 65, "ffffffffffffffffffffffffffffffff", api.OK},
		{"the child's word", 65, "06000000000000000000000000000000", api.ErrImage},
		{"a root's rights 30", 81, "1e", api.ErrImage},
		{"a root's rights 63", 81, "3f", api.ErrImage},
		{"a root's parent 0", 82, "0000", api.ErrImage},
		{"a root's parent -2", 82, "feff", api.ErrImage},
		{"a root's parent 2^15", 82, "0080", api.ErrImage},
		{"a child's rights 0", 108, "00", api.ErrImage},
		{"a child's rights 31", 108, "1f", api.OK},
		{"a child's rights 32", 108, "20", api.ErrImage},
		{"a child's rights 255", 108, "ff", api.ErrImage},
		{"a child's parent -1", 109, "ffff", api.ErrImage},
		{"a child's parent 1", 109, "0100", api.ErrImage},
		{"a child's parent 65534", 109, "feff", api.ErrImage},
		{"no process", 111, "0000", api.ErrImage},
		{"two processes", 111, "0200", api.ErrImage},
		{"33 processes", 111, "2100", api.ErrImage},
		{"process 1", 113, "0100", api.ErrImage},
		{"an empty list", 115, "00", api.ErrImage},
		{"a list of two", 115, "02", api.ErrImage},
		{"a list of 255", 115, "ff", api.ErrImage},
		{"a capability of object 0", 116, "0000000000000000", api.OK},
		{"a capability of object 2^62", 116, "0000000000000040", api.OK},
		{"a capability of object 2^62 + 1", 116, "0100000000000040", api.ErrImage},
		{"a capability of object 2^64 - 1", 116, "ffffffffffffffff", api.ErrImage},
	} {
		b, with := bytes.Clone(good), unhex(t, x.with)
		copy(b[x.at:], with)
		c, s, code := image.Parse(b)
		if code != x.code || code != api.OK && (c != (api.Config{}) || !isZero(s)) {
			t.Errorf("P23.3: %s: %+v, %+v, %d, want %d", x.what, c, s, code, x.code)
		}
		if code == api.OK && !bytes.Equal(laid(t, c, s), b) {
			t.Errorf("P23.5: %s: other bytes", x.what)
		}
	}
	if len(good) != 140 {
		t.Errorf("P23.2: %d bytes", len(good))
	}
}

// P23.3: the greatest image there is, and one with an item more of each kind, which no Config allows.
func TestGreatest(t *testing.T) {
	c := api.Config{Width: 128, Objects: 64, Pages: 256, Entries: 256, Quota: 256, Procs: 32, List: 32, Sets: 16, Ways: 4, Knob: 64}
	s := api.State{NextId: api.MaxId + 1, NextProc: api.MaxNumber + 1, Taken: api.MaxDraws}
	for n := range 64 {
		s.Objects = append(s.Objects, api.Object{Id: api.MaxId - 63 + n, Bytes: pattern(256)})
		for place := range 4 {
			s.Tokens = append(s.Tokens, api.Token{Cap: of(api.MaxId-63+n, uint64(place)), Rights: 31, Parent: 4*n + place - 1})
		}
		s.Tokens[4*n].Parent = -1
	}
	for n := range 32 {
		s.Processes = append(s.Processes, api.Process{Number: 65504 + n, List: slices.Repeat([]api.Cap{of(api.MaxId, 1<<63)}, 32)})
	}
	roundTrip(t, c, s)
	chain := cloned(s)
	chain.Objects, chain.Tokens = chain.Objects[63:], nil
	for n := range 256 {
		chain.Tokens = append(chain.Tokens, api.Token{Cap: of(api.MaxId, uint64(n)), Rights: 31, Parent: n - 1})
	}
	roundTrip(t, c, chain)
	big := cloned(s)
	big.Objects, big.Tokens = nil, nil
	for n := range 4 {
		big.Objects = append(big.Objects, api.Object{Id: n + 1, Bytes: pattern(4096)})
		big.Tokens = append(big.Tokens, api.Token{Cap: of(n+1, 0), Rights: 31, Parent: -1})
	}
	roundTrip(t, c, big)
	for what, more := range map[string]func(*api.State){
		"an object": func(s *api.State) { s.Objects = append(s.Objects, api.Object{Id: api.MaxId}) },
		"a token": func(s *api.State) {
			s.Tokens = append(s.Tokens, api.Token{Cap: of(api.MaxId, 9), Rights: 1, Parent: 255})
		},
		"a process":  func(s *api.State) { s.Processes = append(s.Processes, api.Process{Number: 9}) },
		"a byte":     func(s *api.State) { s.Objects[63].Bytes = pattern(257) },
		"a place":    func(s *api.State) { s.Processes[3].List = append(s.Processes[3].List, of(1, 1)) },
		"many bytes": func(s *api.State) { s.Objects[3].Bytes = pattern(65535) },
	} {
		odd := cloned(s)
		more(&odd)
		if _, _, code := image.Parse(plainBytes(c, odd)); code != api.ErrImage {
			t.Errorf("P23.3: %s too many: %d", what, code)
		}
	}
}

// roundTrip holds a state that keeps all rules against its bytes.
func roundTrip(t *testing.T, c api.Config, s api.State) {
	t.Helper()
	b := laid(t, c, s)
	if want := plainBytes(c, s); !bytes.Equal(b, want) {
		t.Fatalf("P23.2: %x, want %x", b, want)
	}
	gotC, gotS, code := image.Parse(b)
	if code != api.OK || gotC != c || !sameState(gotS, s) {
		t.Fatalf("P23.5: %+v, %+v, %d, want %+v, %+v", gotC, gotS, code, c, s)
	}
}
