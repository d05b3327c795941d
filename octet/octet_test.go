package octet_test

import (
	"bytes"
	"encoding/binary"
	"math"
	"slices"
	"testing"

	"sesame/api"
	"sesame/octet"
)

const top = math.MaxUint64

var wrongWidths = []int{math.MinInt, -256, -8, -4, -2, -1, 0, 3, 5, 6, 7, 9, 10, 12, 16, 24, 32, 64, 256, 257, 260, 264, math.MaxInt32 + 2, math.MaxInt}

// steps makes numbers by a fixed rule, so that every run sees the same ones.
func steps() func() uint64 {
	x := uint64(7)
	return func() uint64 {
		x = x*6364136223846793005 + 1442695040888963407
		return x ^ x>>29
	}
}

// numbers: every power of two with its neighbours, some whose bytes are all unlike, some by rule.
func numbers() []uint64 {
	all := []uint64{0, top, 258, 0x0123456789abcdef, 0xfedcba9876543210}
	for bit := range 64 {
		p := uint64(1) << bit
		all = append(all, p-1, p, p+1)
	}
	step := steps()
	for range 200 {
		all = append(all, step(), step()>>(step()%64))
	}
	return all
}

// laid is a number's bytes, as the library lays them.
func laid(v uint64, width int) []byte {
	return binary.LittleEndian.AppendUint64(nil, v)[:width]
}

func prefixes() [][]byte {
	roomy := bytes.Repeat([]byte{0xaa}, 64)
	return [][]byte{nil, {}, {9}, {1, 2, 3}, []byte("seventeen bytes.."), roomy[:0], roomy[:5]}
}

func want(t *testing.T, what string, got, want []byte) {
	t.Helper()
	if !bytes.Equal(got, want) {
		t.Errorf("%s: % x, not % x", what, got, want)
	}
}

func behind(b, more []byte) []byte { return slices.Concat(b, more) }

func checkPut[T uint8 | uint16 | uint32 | uint64](t *testing.T, width int) {
	t.Helper()
	for _, b := range prefixes() {
		for _, v := range numbers() {
			want(t, "P2.1: Put", octet.Put(b, T(v)), behind(b, laid(uint64(T(v)), width)))
		}
	}
}

func TestPut(t *testing.T) { // P2.1
	want(t, "P2.1: Put(none, uint16 258)", octet.Put(nil, uint16(258)), []byte{2, 1})
	want(t, "P2.1: Put([9], uint32 1)", octet.Put([]byte{9}, uint32(1)), []byte{9, 1, 0, 0, 0})
	want(t, "P2.1: Put([9], uint8 0)", octet.Put([]byte{9}, uint8(0)), []byte{9, 0})
	want(t, "P2.1: Put(none, uint64)", octet.Put(nil, uint64(0x0102030405060708)), []byte{8, 7, 6, 5, 4, 3, 2, 1})
	checkPut[uint8](t, 1)
	checkPut[uint16](t, 2)
	checkPut[uint32](t, 4)
	checkPut[uint64](t, 8)
}

func checkGet[T uint8 | uint16 | uint32 | uint64](t *testing.T, width int) {
	t.Helper()
	for _, v := range numbers() {
		for more := range 10 {
			b := behind(laid(v, width), bytes.Repeat([]byte{0xa5}, more))
			if got, code := octet.Get[T](b); got != T(v) || code != api.OK {
				t.Errorf("P2.1: Get(% x) of width %d: %d, %d", b, width, got, code)
			}
		}
	}
	roomy := bytes.Repeat([]byte{0xa5}, 40)
	for n := range width {
		// Bytes that a list has room for are none of its own.
		for _, b := range [][]byte{roomy[:n], roomy[:n:n], roomy[40-n:]} {
			if got, code := octet.Get[T](b); got != 0 || code != api.ErrShort {
				t.Errorf("P2.1: Get of %d bytes, width %d: %d, %d", n, width, got, code)
			}
		}
	}
	if got, code := octet.Get[T](nil); got != 0 || code != api.ErrShort {
		t.Errorf("P2.1: Get(nil), width %d: %d, %d", width, got, code)
	}
}

func TestGet(t *testing.T) { // P2.1
	if v, code := octet.Get[uint16]([]byte{2, 1, 7}); v != 258 || code != api.OK {
		t.Errorf("P2.1: Get: %d, %d", v, code)
	}
	checkGet[uint8](t, 1)
	checkGet[uint16](t, 2)
	checkGet[uint32](t, 4)
	checkGet[uint64](t, 8)
}

func TestPutWord(t *testing.T) { // P2.2
	want(t, "P2.2: PutWord(none, {1, 2})", octet.PutWord(nil, api.Word{Hi: 1, Lo: 2}), []byte{2, 0, 0, 0, 0, 0, 0, 0, 1, 0, 0, 0, 0, 0, 0, 0})
	step := steps()
	for _, b := range prefixes() {
		for _, lo := range numbers() {
			hi := step()
			want(t, "P2.2: PutWord", octet.PutWord(b, api.Word{Hi: hi, Lo: lo}), slices.Concat(b, laid(lo, 8), laid(hi, 8)))
		}
	}
}

func TestPutCap(t *testing.T) { // P2.2
	w := api.Word{Hi: 0x8899aabbccddeeff, Lo: 0x0011223344556677}
	for _, b := range prefixes() {
		for _, obj := range []int{0, 1, 3, 255, 256, math.MaxUint32, 0x0123456789abcdef, api.MaxId - 1, api.MaxId} {
			got, code := octet.PutCap(b, api.Cap{Obj: obj, Pass: w})
			want(t, "P2.2: PutCap", got, slices.Concat(b, laid(uint64(obj), 8), laid(w.Lo, 8), laid(w.Hi, 8)))
			if code != api.OK {
				t.Errorf("P2.2: PutCap of object %d: %d", obj, code)
			}
		}
		for _, obj := range []int{-1, -2, math.MinInt32, math.MinInt, api.MaxId + 1, 3 << 61, math.MaxInt} {
			if got, code := octet.PutCap(b, api.Cap{Obj: obj, Pass: w}); len(got) != 0 || code != api.ErrRange {
				t.Errorf("P2.2: PutCap of object %d: % x, %d", obj, got, code)
			}
		}
	}
}

func TestJoin(t *testing.T) { // P2.3
	want(t, "P2.3: Join([1 2], none, [3])", octet.Join([]byte{1, 2}, nil, []byte{3}), []byte{1, 2, 3})
	want(t, "P2.3: Join()", octet.Join(), nil)
	want(t, "P2.3: Join(none)", octet.Join(nil), nil)
	want(t, "P2.3: Join(none, none)", octet.Join(nil, []byte{}), nil)
	want(t, "P2.3: Join([5])", octet.Join([]byte{5}), []byte{5})
	row := []byte{1, 2}
	want(t, "P2.3: Join of one row three times", octet.Join(row, row, row), []byte{1, 2, 1, 2, 1, 2})
	var rows [][]byte
	var all []byte
	for n := range 300 {
		row := bytes.Repeat([]byte{byte(n)}, n%7)
		rows, all = append(rows, row), append(all, row...)
	}
	want(t, "P2.3: Join of 300 rows", octet.Join(rows...), all)
}

// reading holds a reader against what it should still have.
type reading struct {
	t    *testing.T
	r    *octet.Reader
	rest []byte
}

func newReading(t *testing.T, b []byte) *reading {
	return &reading{t: t, r: octet.NewReader(b), rest: slices.Clone(b)}
}

// stands checks a call's code, and that just so many bytes were taken.
func (g *reading) stands(what string, code, wantCode api.Errno, taken int) {
	g.t.Helper()
	g.rest = g.rest[taken:]
	if code != wantCode {
		g.t.Errorf("P2.4: %s with %d left: %d, not %d", what, g.r.Left(), code, wantCode)
	}
	end := api.ErrMany
	if len(g.rest) == 0 {
		end = api.OK
	}
	// Twice: to ask takes nothing.
	for range 2 {
		if g.r.Left() != len(g.rest) || g.r.End() != end {
			g.t.Errorf("P2.4: behind %s: %d left, end %d; not %d, %d", what, g.r.Left(), g.r.End(), len(g.rest), end)
		}
	}
}

func (g *reading) number(width int, want uint64, code api.Errno, taken int) {
	g.t.Helper()
	v, got := g.r.Number(width)
	g.stands("Number", got, code, taken)
	if v != want {
		g.t.Errorf("P2.4: Number(%d): %d, not %d", width, v, want)
	}
}

func (g *reading) int(width, most, want int, code api.Errno, taken int) {
	g.t.Helper()
	v, got := g.r.Int(width, most)
	g.stands("Int", got, code, taken)
	if v != want {
		g.t.Errorf("P2.4: Int(%d, %d): %d, not %d", width, most, v, want)
	}
}

func (g *reading) row(n int, wanted []byte, code api.Errno) {
	g.t.Helper()
	v, got := g.r.Row(n)
	g.stands("Row", got, code, len(wanted))
	want(g.t, "P2.4: Row", v, wanted)
}

func (g *reading) word(want api.Word, code api.Errno, taken int) {
	g.t.Helper()
	v, got := g.r.Word()
	g.stands("Word", got, code, taken)
	if v != want {
		g.t.Errorf("P2.4: Word: %v, not %v", v, want)
	}
}

func (g *reading) cap(want api.Cap, code api.Errno, taken int) {
	g.t.Helper()
	v, got := g.r.Cap()
	g.stands("Cap", got, code, taken)
	if v != want {
		g.t.Errorf("P2.4: Cap: %v, not %v", v, want)
	}
}

func TestReaderExample(t *testing.T) { // P2.4
	g := newReading(t, []byte{5, 0, 7})
	g.number(3, 0, api.ErrRange, 0)
	g.number(4, 0, api.ErrShort, 0)
	g.int(2, 4, 0, api.ErrRange, 0)
	g.int(2, 5, 5, api.OK, 2)
	g.row(2, nil, api.ErrShort)
	g.row(0, nil, api.OK)
	g.row(1, []byte{7}, api.OK)
	g.number(1, 0, api.ErrShort, 0)
	g.row(-1, nil, api.ErrRange)
	g = newReading(t, bytes.Repeat([]byte{255}, 24))
	g.cap(api.Cap{}, api.ErrRange, 0)
	g.word(api.Word{Hi: top, Lo: top}, api.OK, 16)
	g.number(8, top, api.OK, 8)
}

func TestReaderOfNothing(t *testing.T) { // P2.4
	for _, b := range [][]byte{nil, {}, make([]byte, 0, 64)} {
		g := newReading(t, b)
		g.stands("NewReader", api.OK, api.OK, 0)
		for _, width := range []int{1, 2, 4, 8} {
			g.number(width, 0, api.ErrShort, 0)
			g.int(width, 0, 0, api.ErrShort, 0)
			g.int(width, -1, 0, api.ErrRange, 0)
		}
		for _, width := range wrongWidths {
			g.number(width, 0, api.ErrRange, 0)
			g.int(width, 0, 0, api.ErrRange, 0)
		}
		g.row(0, nil, api.OK)
		g.row(1, nil, api.ErrShort)
		g.row(math.MaxInt, nil, api.ErrShort)
		g.row(-1, nil, api.ErrRange)
		g.row(math.MinInt, nil, api.ErrRange)
		g.word(api.Word{}, api.ErrShort, 0)
		g.cap(api.Cap{}, api.ErrShort, 0)
	}
}

func TestNumber(t *testing.T) { // P2.4
	for _, v := range numbers() {
		for _, width := range []int{1, 2, 4, 8} {
			b := laid(v, width)
			g := newReading(t, slices.Concat([]byte{0xee}, b, []byte{0xdd, 0xcc}))
			g.number(1, 0xee, api.OK, 1)
			for _, wrong := range wrongWidths {
				g.number(wrong, 0, api.ErrRange, 0)
			}
			g.number(width, v<<(64-8*width)>>(64-8*width), api.OK, width)
			g.number(4, 0, api.ErrShort, 0)
			g.number(2, 0xccdd, api.OK, 2)
		}
	}
	for _, width := range []int{1, 2, 4, 8} {
		for n := range width {
			// The room behind the bytes is none of the reader's.
			newReading(t, bytes.Repeat([]byte{1}, 16)[:n]).number(width, 0, api.ErrShort, 0)
		}
	}
}

func TestInt(t *testing.T) { // P2.4
	for _, width := range []int{1, 2, 4, 8} {
		for _, v := range numbers() {
			v = v << (64 - 8*width) >> (64 - 8*width)
			g := newReading(t, behind(laid(v, width), []byte{0xdd}))
			for _, wrong := range wrongWidths {
				g.int(wrong, math.MaxInt, 0, api.ErrRange, 0)
				g.int(wrong, -1, 0, api.ErrRange, 0)
			}
			for _, most := range []int{-1, math.MinInt32, math.MinInt} {
				g.int(width, most, 0, api.ErrRange, 0)
			}
			if v > math.MaxInt {
				g.int(width, 0, 0, api.ErrRange, 0)
				g.int(width, math.MaxInt, 0, api.ErrRange, 0)
				continue
			}
			if v > 0 {
				g.int(width, 0, 0, api.ErrRange, 0)
				g.int(width, int(v)-1, 0, api.ErrRange, 0)
			}
			g.int(width, int(v), int(v), api.OK, width)
			g.int(1, math.MaxInt, 0xdd, api.OK, 1)
		}
		for n := range width {
			g := newReading(t, bytes.Repeat([]byte{1}, 16)[:n])
			g.int(width, math.MaxInt, 0, api.ErrShort, 0)
			g.int(width, 0, 0, api.ErrShort, 0)
			g.int(width, -1, 0, api.ErrRange, 0)
			g.int(3, 5, 0, api.ErrRange, 0)
		}
	}
}

func TestRow(t *testing.T) { // P2.4
	b := []byte("a row of bytes")
	for first := range len(b) + 1 {
		for n := range len(b) + 3 {
			g := newReading(t, b)
			g.row(first, b[:first], api.OK)
			g.row(-1, nil, api.ErrRange)
			g.row(math.MinInt, nil, api.ErrRange)
			g.row(math.MaxInt, nil, api.ErrShort)
			if first+n > len(b) {
				g.row(n, nil, api.ErrShort)
			} else {
				g.row(n, b[first:first+n], api.OK)
			}
		}
	}
	newReading(t, bytes.Repeat([]byte{1}, 16)[:3]).row(4, nil, api.ErrShort)
}

func TestReadWordAndCap(t *testing.T) { // P2.4
	w := api.Word{Hi: 0x8899aabbccddeeff, Lo: 0x0011223344556677}
	bytesOf := behind(laid(w.Lo, 8), laid(w.Hi, 8))
	for more := range 20 {
		g := newReading(t, behind(bytesOf, bytes.Repeat([]byte{1}, more)))
		g.word(w, api.OK, 16)
	}
	for n := range 16 {
		newReading(t, bytesOf[:n]).word(api.Word{}, api.ErrShort, 0)
	}
	for _, v := range numbers() {
		b := behind(laid(v, 8), bytesOf)
		g := newReading(t, behind(b, []byte{1}))
		if v > api.MaxId {
			g.cap(api.Cap{}, api.ErrRange, 0)
			g.number(8, v, api.OK, 8)
		} else {
			g.cap(api.Cap{Obj: int(v), Pass: w}, api.OK, 24)
		}
		for n := range 24 {
			// Ahead of its number: there is no capability to look at.
			newReading(t, b[:n]).cap(api.Cap{}, api.ErrShort, 0)
		}
	}
}

// part is one of the things that are laid and read back.
type part struct {
	lay  func(b []byte) []byte
	size int
	read func(r *octet.Reader) (same bool, code api.Errno)
}

func numberPart(v uint64, width int, asInt bool) part {
	lay := func(b []byte) []byte {
		switch width {
		case 1:
			return octet.Put(b, uint8(v))
		case 2:
			return octet.Put(b, uint16(v))
		case 4:
			return octet.Put(b, uint32(v))
		}
		return octet.Put(b, v)
	}
	read := func(r *octet.Reader) (bool, api.Errno) {
		got, code := r.Number(width)
		return got == v, code
	}
	if asInt {
		read = func(r *octet.Reader) (bool, api.Errno) {
			got, code := r.Int(width, int(v))
			return got == int(v), code
		}
	}
	return part{lay, width, read}
}

func wordPart(w api.Word) part {
	return part{
		func(b []byte) []byte { return octet.PutWord(b, w) }, 16,
		func(r *octet.Reader) (bool, api.Errno) { got, code := r.Word(); return got == w, code },
	}
}

func capPart(t *testing.T, c api.Cap) part {
	lay := func(b []byte) []byte {
		out, code := octet.PutCap(b, c)
		if code != api.OK {
			t.Errorf("P2.5: PutCap(%v): %d", c, code)
		}
		return out
	}
	return part{lay, 24, func(r *octet.Reader) (bool, api.Errno) { got, code := r.Cap(); return got == c, code }}
}

func rowPart(row []byte) part {
	return part{
		func(b []byte) []byte { return octet.Join(b, row) }, len(row),
		func(r *octet.Reader) (bool, api.Errno) {
			got, code := r.Row(len(row))
			return bytes.Equal(got, row), code
		},
	}
}

// nextPart makes one by rule. A row has at least one byte, so that the last part is the one that has the last byte.
func nextPart(t *testing.T, step func() uint64) part {
	switch step() % 5 {
	case 0:
		return wordPart(api.Word{Hi: step(), Lo: step()})
	case 1:
		return capPart(t, api.Cap{Obj: int(step() >> 2), Pass: api.Word{Hi: step(), Lo: step()}})
	case 2:
		return rowPart(bytes.Repeat([]byte{byte(step())}, int(step()%9)+1))
	}
	width := 1 << (step() % 4)
	v := step() << (64 - 8*width) >> (64 - 8*width)
	return numberPart(v, width, v <= math.MaxInt && step()%2 == 0)
}

func TestThereAndBack(t *testing.T) { // P2.5
	step := steps()
	for count := range 120 {
		var b []byte
		var parts []part
		for range count % 12 {
			p := nextPart(t, step)
			b, parts = p.lay(b), append(parts, p)
		}
		for _, cut := range []int{0, 1} {
			readBack(t, parts, b, cut)
		}
		readBack(t, parts, octet.Put(b, uint8(0)), -1)
	}
}

// readBack reads all parts of bytes whose last cut are gone (below 0: that are more).
func readBack(t *testing.T, parts []part, b []byte, cut int) {
	t.Helper()
	if cut > len(b) {
		return
	}
	r := octet.NewReader(b[:len(b)-max(cut, 0)])
	for i, p := range parts {
		left := r.Left()
		same, code := p.read(r)
		if cut > 0 && i == len(parts)-1 {
			if code != api.ErrShort || r.Left() != left || left != p.size-1 {
				t.Errorf("P2.5: the last byte gone: %d, %d of %d left", code, r.Left(), left)
			}
			return
		}
		if !same || code != api.OK || r.Left() != left-p.size {
			t.Errorf("P2.5: part %d comes back as another: %d, %d of %d left", i, code, r.Left(), left)
		}
	}
	end := api.OK
	if cut < 0 {
		end = api.ErrMany
	}
	if r.End() != end || r.Left() != max(-cut, 0) {
		t.Errorf("P2.5: at the end: %d, %d left", r.End(), r.Left())
	}
}

// spoil writes over all that a list has room for.
func spoil(b []byte) {
	b = b[:cap(b)]
	for i := range b {
		b[i] ^= 0xff
	}
}

// makers: every call that answers a list out of one that is handed in.
func makers() []func(b []byte) []byte {
	return []func(b []byte) []byte{
		func(b []byte) []byte { return octet.Put(b, uint8(1)) },
		func(b []byte) []byte { return octet.Put(b, uint16(1)) },
		func(b []byte) []byte { return octet.Put(b, uint32(1)) },
		func(b []byte) []byte { return octet.Put(b, uint64(1)) },
		func(b []byte) []byte { return octet.PutWord(b, api.Word{Hi: 1, Lo: 2}) },
		func(b []byte) []byte { out, _ := octet.PutCap(b, api.Cap{Obj: 3}); return out },
		func(b []byte) []byte { return octet.Join(b) },
		func(b []byte) []byte { return octet.Join(b, nil) },
		func(b []byte) []byte { return octet.Join(nil, b) },
		func(b []byte) []byte { return octet.Join(b, []byte{1, 2, 3}) },
		func(b []byte) []byte { out, _ := octet.NewReader(b).Row(len(b)); return out },
	}
}

func TestMemoryOfLists(t *testing.T) { // P2.6
	for i, answer := range makers() {
		for n := range 20 {
			room := bytes.Repeat([]byte{0xa5, 0x5a}, 40)
			before := slices.Clone(room)
			first, second := answer(room[:n]), answer(room[:n])
			kept := slices.Clone(second)
			if !bytes.Equal(room, before) {
				t.Errorf("P2.6: maker %d changed what was handed in: % x", i, room)
			}
			spoil(first)
			if !bytes.Equal(room, before) || !bytes.Equal(second, kept) {
				t.Errorf("P2.6: maker %d: what it answers shares memory", i)
			}
			spoil(room)
			if !bytes.Equal(second, kept) {
				t.Errorf("P2.6: maker %d: what it answers hangs on what was handed in", i)
			}
		}
	}
}

func TestMemoryOfRows(t *testing.T) { // P2.6
	rows := [][]byte{{1, 2}, {3}, nil}
	all := octet.Join(rows...)
	spoil(all)
	if !bytes.Equal(rows[0], []byte{1, 2}) || !bytes.Equal(rows[1], []byte{3}) || rows[2] != nil {
		t.Errorf("P2.6: Join changed its rows: %v", rows)
	}
	room := bytes.Repeat([]byte{7}, 30)
	octet.PutCap(room[:3], api.Cap{Obj: -1})
	octet.Get[uint64](room[:9])
	octet.Get[uint64](room[:3])
	if !bytes.Equal(room, bytes.Repeat([]byte{7}, 30)) {
		t.Errorf("P2.6: a call changed what was handed in: % x", room)
	}
}

func TestMemoryOfReader(t *testing.T) { // P2.6, P2.4
	in := []byte("0123456789 and some more behind it")
	before := slices.Clone(in)
	g := newReading(t, in[:10])
	one, two := octet.NewReader(in), octet.NewReader(in)
	if !bytes.Equal(in, before) {
		t.Errorf("P2.6: NewReader changed what was handed in: %q", in)
	}
	spoil(in)
	// A row's room must not reach into what is still to be read.
	for i := range 10 {
		row, code := g.r.Row(1)
		want(t, "P2.6: Row", row, before[i:i+1])
		g.stands("Row", code, api.OK, 1)
		spoil(row)
		row = append(row, "spoiled"...)
		spoil(row)
	}
	first, _ := one.Row(5)
	spoil(first)
	second, _ := two.Row(len(before))
	want(t, "P2.6: another reader's row", second, before)
	rest, _ := one.Row(len(before) - 5)
	want(t, "P2.6: the row behind", rest, before[5:])
}
