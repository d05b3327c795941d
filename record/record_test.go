package record_test

import (
	"bytes"
	"encoding/binary"
	"encoding/hex"
	"math"
	"math/rand"
	"reflect"
	"slices"
	"strings"
	"testing"

	"sesame/api"
	"sesame/record"
)

// The tests hold the package against a plain reading of the chapter, which knows each op's layout by heart and shares nothing with it.

const (
	mostWritten = 1025
	mostRead    = 1024
)

var (
	door = api.Cap{Obj: 7, Pass: api.Word{Hi: 1, Lo: 2}}
	full = api.Cap{Obj: api.MaxId, Pass: api.Word{Hi: math.MaxUint64, Lo: math.MaxUint64}}
	odd  = api.Cap{Obj: 0x0123456789abcdef, Pass: api.Word{Hi: 0x8899aabbccddeeff, Lo: 0x0011223344556677}}
)

// unhex gives the bytes of hexadecimal digits; blanks are for the eye.
func unhex(t testing.TB, s string) []byte {
	t.Helper()
	b, err := hex.DecodeString(strings.ReplaceAll(s, " ", ""))
	if err != nil {
		t.Fatal(err)
	}
	return b
}

func zeros(n int) string { return strings.Repeat("00", n) }

// sameCall and sameReply: lists of no item may be nil or empty.
func sameCall(a, b api.Call) bool {
	same := bytes.Equal(a.Data, b.Data) && slices.Equal(a.Gifts, b.Gifts)
	a.Data, a.Gifts, b.Data, b.Gifts = nil, nil, nil, nil
	return same && reflect.DeepEqual(a, b)
}

func sameReply(a, b api.Reply) bool {
	same := bytes.Equal(a.Data, b.Data)
	a.Data, b.Data = nil, nil
	return same && reflect.DeepEqual(a, b)
}

// plainBytes: the chapter's table, for a call that has a form.
func plainBytes(c api.Call) []byte {
	le := binary.LittleEndian
	b := le.AppendUint16([]byte{byte(c.Op)}, uint16(c.By))
	obj := le.AppendUint64(nil, uint64(c.Cap.Obj))
	pass := le.AppendUint64(le.AppendUint64(nil, c.Cap.Pass.Lo), c.Cap.Pass.Hi)
	flag := []byte{0}
	if c.Given {
		flag = []byte{1}
	}
	four := func(n int) []byte { return le.AppendUint32(nil, uint32(int32(n))) }
	switch c.Op {
	case 1:
		return slices.Concat(b, four(c.Size))
	case 2, 4, 7:
		return slices.Concat(b, obj, pass)
	case 3:
		return slices.Concat(b, obj, pass, []byte{byte(c.Rights)})
	case 5:
		return slices.Concat(b, obj, flag, pass, four(c.Off), four(c.N))
	case 6:
		return slices.Concat(b, obj, flag, pass, four(c.Off), c.Data)
	case 8:
		return le.AppendUint16(b, uint16(c.Index))
	case 9:
		b = append(b, byte(len(c.Gifts)))
		for _, g := range c.Gifts {
			b = le.AppendUint16(b, uint16(g))
		}
	}
	return b
}

// plainParse: the same table, read by fixed places.
func plainParse(b []byte) (api.Call, bool) {
	le := binary.LittleEndian
	if len(b) < 3 || b[0] < 1 || b[0] > 10 {
		return api.Call{}, false
	}
	c := api.Call{Op: int(b[0]), By: int(le.Uint16(b[1:]))}
	b = b[3:]
	fixed := map[int]int{1: 4, 2: 24, 3: 25, 4: 24, 5: 33, 7: 24, 8: 2, 10: 0}
	if n, has := fixed[c.Op]; has && len(b) != n {
		return api.Call{}, false
	}
	wordAt := func(i int) api.Word { return api.Word{Lo: le.Uint64(b[i:]), Hi: le.Uint64(b[i+8:])} }
	fourAt := func(i int) int { return int(int32(le.Uint32(b[i:]))) }
	capped := func() bool {
		c.Cap.Obj = int(le.Uint64(b))
		return le.Uint64(b) <= 1<<62
	}
	ok := true
	switch c.Op {
	case 1:
		c.Size = fourAt(0)
	case 2, 3, 4, 7:
		ok = capped()
		c.Cap.Pass = wordAt(8)
		if c.Op == 3 {
			c.Rights = int(b[24])
		}
	case 5, 6:
		if len(b) < 29 || len(b) > 29+mostWritten {
			return api.Call{}, false
		}
		ok = capped() && b[8] < 2
		c.Given, c.Cap.Pass, c.Off = b[8] == 1, wordAt(9), fourAt(25)
		ok = ok && (c.Given || c.Cap.Pass == api.Word{})
		if c.Op == 5 {
			c.N = fourAt(29)
		} else {
			c.Data = b[29:]
		}
	case 8:
		c.Index = int(le.Uint16(b))
	case 9:
		if len(b) < 1 || len(b) != 1+2*int(b[0]) {
			return api.Call{}, false
		}
		for i := 1; i < len(b); i += 2 {
			c.Gifts = append(c.Gifts, int(le.Uint16(b[i:])))
		}
	}
	if !ok {
		return api.Call{}, false
	}
	return c, true
}

// plainParseAnswer: the reply's table, by fixed places.
func plainParseAnswer(op int, b []byte) (api.Reply, bool) {
	le := binary.LittleEndian
	if op < 0 || op > 10 || len(b) < 2 {
		return api.Reply{}, false
	}
	r := api.Reply{Code: api.Errno(le.Uint16(b))}
	b = b[2:]
	switch {
	case r.Code != 0:
		return r, len(b) == 0
	case op == 0:
		return api.Reply{}, false
	case op == 1 || op == 3:
		if len(b) != 24 || le.Uint64(b) > 1<<62 {
			return api.Reply{}, false
		}
		r.Cap = api.Cap{Obj: int(le.Uint64(b)), Pass: api.Word{Lo: le.Uint64(b[8:]), Hi: le.Uint64(b[16:])}}
		return r, true
	case op == 5:
		r.Data = b
		return r, len(b) <= mostRead
	case op == 9:
		if len(b) != 2 {
			return api.Reply{}, false
		}
		r.Number = int(le.Uint16(b))
		return r, true
	}
	return r, len(b) == 0
}

// checkParse holds Parse against the plain reading, and what it answers against Bytes.
func checkParse(t testing.TB, b []byte) {
	t.Helper()
	want, ok := plainParse(b)
	got, code := record.Parse(b)
	if !ok {
		if code != api.ErrRecord || !reflect.DeepEqual(got, api.Call{}) {
			t.Errorf("P20.2: Parse(%x): %+v, %d, not ErrRecord", b, got, code)
		}
		return
	}
	if code != api.OK || !sameCall(got, want) {
		t.Errorf("P20.2: Parse(%x): %+v, %d, not %+v", b, got, code, want)
		return
	}
	if back, code := record.Bytes(got); code != api.OK || !bytes.Equal(back, b) {
		t.Errorf("P20.4: Bytes(Parse(%x)): %x, %d", b, back, code)
	}
}

func checkParseAnswer(t testing.TB, op int, b []byte) {
	t.Helper()
	want, ok := plainParseAnswer(op, b)
	got, code := record.ParseAnswer(op, b)
	if !ok {
		if code != api.ErrRecord || !reflect.DeepEqual(got, api.Reply{}) {
			t.Errorf("P20.3: ParseAnswer(%d, %x): %+v, %d, not ErrRecord", op, b, got, code)
		}
		return
	}
	if code != api.OK || !sameReply(got, want) {
		t.Errorf("P20.3: ParseAnswer(%d, %x): %+v, %d, not %+v", op, b, got, code, want)
		return
	}
	if back, code := record.Answer(op, got); code != api.OK || !bytes.Equal(back, b) {
		t.Errorf("P20.4: Answer(%d, ParseAnswer(%x)): %x, %d", op, b, back, code)
	}
}

// checkRight: a call that has a form, there and back, and its bytes with fewer and with more.
func checkRight(t *testing.T, c api.Call) {
	t.Helper()
	want := plainBytes(c)
	b, code := record.Bytes(c)
	if code != api.OK || !bytes.Equal(b, want) {
		t.Errorf("P20.1: Bytes(%+v): %x, %d, not %x", c, b, code, want)
		return
	}
	if back, code := record.Parse(b); code != api.OK || !sameCall(back, c) {
		t.Errorf("P20.4: Parse(Bytes(%+v)): %+v, %d", c, back, code)
	}
	for n := range b {
		shorter, code := record.Parse(b[:n])
		fewerData := c.Op == api.OpWrite && n >= 32
		if fewerData != (code == api.OK) || code != api.OK && code != api.ErrRecord {
			t.Errorf("P20.4: Parse of %d bytes of %x: %+v, %d", n, b, shorter, code)
		}
		checkParse(t, b[:n])
	}
	for _, more := range [][]byte{{0}, {1}, {255}, {0, 0}, make([]byte, 24)} {
		checkParse(t, slices.Concat(b, more))
		_, code := record.Parse(slices.Concat(b, more))
		if c.Op != api.OpWrite && code != api.ErrRecord {
			t.Errorf("P20.4: Parse of %x and %x: %d", b, more, code)
		}
	}
}

func checkWrong(t *testing.T, why string, c api.Call) {
	t.Helper()
	if b, code := record.Bytes(c); code != api.ErrRecord || len(b) != 0 {
		t.Errorf("P20.1: %s: op %d: %x, %d, not ErrRecord", why, c.Op, b, code)
	}
}

// rightCalls: calls that have a form, with each field at its edges.
func rightCalls() []api.Call {
	signed := []int{math.MinInt32, math.MinInt32 + 1, -65536, -1, 0, 1, 255, 256, 4097, math.MaxInt32 - 1, math.MaxInt32}
	two := []int{0, 1, 255, 256, 258, 65534, 65535}
	caps := []api.Cap{{}, {Obj: 1}, {Pass: api.Word{Lo: 1}}, {Pass: api.Word{Hi: 1}}, door, full, odd}
	var all []api.Call
	for _, by := range two {
		all = append(all, api.Call{Op: api.OpExit, By: by}, api.Call{Op: api.OpAdd, By: by, Cap: door})
	}
	for _, n := range signed {
		all = append(all, api.Call{Op: api.OpCreate, By: 3, Size: n})
		for _, m := range signed {
			all = append(all, api.Call{Op: api.OpRead, By: 1, Cap: api.Cap{Obj: 5}, Off: n, N: m})
		}
	}
	for _, x := range caps {
		for _, op := range []int{api.OpDestroy, api.OpRevoke, api.OpAdd} {
			all = append(all, api.Call{Op: op, By: 2, Cap: x})
		}
		for _, r := range []int{0, 1, 31, 32, 128, 255} {
			all = append(all, api.Call{Op: api.OpDerive, By: 2, Cap: x, Rights: r})
		}
		all = append(all, api.Call{Op: api.OpRead, Cap: x, Given: true, Off: -1, N: 2})
		all = append(all, api.Call{Op: api.OpRead, Cap: api.Cap{Obj: x.Obj}, Off: 1, N: -2})
		for _, n := range []int{0, 1, 2, 24, 63, 1023, 1024, 1025} {
			row := bytes.Repeat([]byte{0xa5, 0, 1}, n)[:n]
			all = append(all, api.Call{Op: api.OpWrite, By: 9, Cap: x, Given: true, Off: -3, Data: row})
			all = append(all, api.Call{Op: api.OpWrite, By: 9, Cap: api.Cap{Obj: x.Obj}, Off: n, Data: row})
		}
	}
	for _, n := range two {
		all = append(all, api.Call{Op: api.OpRemove, By: 4, Index: n})
		all = append(all, api.Call{Op: api.OpSpawn, By: 4, Gifts: []int{n, 1, n}})
	}
	for _, n := range []int{0, 1, 2, 127, 128, 254, 255} {
		all = append(all, api.Call{Op: api.OpSpawn, Gifts: slices.Repeat([]int{257}, n)})
	}
	return all
}

func TestExamplesOfCalls(t *testing.T) { // P20.1, P20.2
	for _, x := range []struct {
		c    api.Call
		want string
	}{
		{api.Call{Op: api.OpCreate, By: 3, Size: -1}, "01 0300 ffffffff"},
		{api.Call{Op: api.OpExit}, "0a 0000"},
		{api.Call{Op: api.OpDerive, By: 1, Cap: door, Rights: 3}, "03 0100 0700000000000000 0200000000000000 0100000000000000 03"},
		{api.Call{Op: api.OpRead, Cap: api.Cap{Obj: 7}, Off: 1, N: 2}, "05 0000 0700000000000000 00" + zeros(16) + "01000000 02000000"},
		{api.Call{Op: api.OpWrite, Cap: door, Given: true, Off: 3, Data: []byte("ab")}, "06 0000 0700000000000000 01 0200000000000000 0100000000000000 03000000 6162"},
		{api.Call{Op: api.OpDestroy, Cap: full}, "02 0000 0000000000000040" + strings.Repeat("ff", 16)},
		{api.Call{Op: api.OpRevoke, By: 65535, Cap: door}, "04 ffff 0700000000000000 0200000000000000 0100000000000000"},
		{api.Call{Op: api.OpAdd, By: 258, Cap: api.Cap{}}, "07 0201" + zeros(24)},
		{api.Call{Op: api.OpRemove, Index: 65535}, "08 0000 ffff"},
		{api.Call{Op: api.OpSpawn, Gifts: []int{1, 1}}, "09 0000 02 0100 0100"},
		{api.Call{Op: api.OpSpawn}, "09 0000 00"},
	} {
		want := unhex(t, x.want)
		if b, code := record.Bytes(x.c); code != api.OK || !bytes.Equal(b, want) {
			t.Errorf("P20.1: Bytes(%+v): %x, %d, not %x", x.c, b, code, want)
		}
		if c, code := record.Parse(want); code != api.OK || !sameCall(c, x.c) {
			t.Errorf("P20.2: Parse(%x): %+v, %d, not %+v", want, c, code, x.c)
		}
	}
	for _, s := range []string{
		"", "0a", "0a 00", "0a 0000 00", "01 0000 000000", "00 0000", "0b 0000", "ff 0000", "09 0000", "09 0000 01 00", "09 0000 00 00",
		"05 0000 0700000000000000 02" + zeros(24), "05 0000 0700000000000000 ff" + zeros(24),
		"05 0000 0700000000000000 00 01" + zeros(15) + zeros(8), "06 0000 0700000000000000 00" + zeros(15) + "01" + zeros(4),
		"02 0000 0100000000000040" + zeros(16), "02 0000 ffffffffffffffff" + zeros(16), "03 0000 0000000000000080" + zeros(17),
		"05 0000 0100000000000040 01" + zeros(24), "06 0000 0000000000000080 01" + zeros(20),
	} {
		if c, code := record.Parse(unhex(t, s)); code != api.ErrRecord || !reflect.DeepEqual(c, api.Call{}) {
			t.Errorf("P20.2: Parse(%s): %+v, %d, not ErrRecord", s, c, code)
		}
	}
}

func TestCallsThereAndBack(t *testing.T) { // P20.1, P20.2, P20.4
	for _, c := range rightCalls() {
		checkRight(t, c)
	}
}

func TestCallsOutOfBounds(t *testing.T) { // P20.1
	for _, op := range []int{math.MinInt, -1, 0, 11, 255, 256, 257, 266, 1<<32 + 1, math.MaxInt} {
		checkWrong(t, "no op", api.Call{Op: op})
	}
	for _, n := range []int{math.MinInt, -65536, -1, 65536, 65537, 1 << 32, math.MaxInt} {
		for op := range 11 {
			checkWrong(t, "a caller", api.Call{Op: op, By: n})
		}
		checkWrong(t, "an index", api.Call{Op: api.OpRemove, Index: n})
		for at := range 3 {
			places := []int{4, 5, 6}
			places[at] = n
			checkWrong(t, "a gift", api.Call{Op: api.OpSpawn, Gifts: places})
		}
	}
	for _, n := range []int{math.MinInt, math.MinInt32 - 1, math.MaxInt32 + 1, 1 << 32, math.MaxInt} {
		checkWrong(t, "a size", api.Call{Op: api.OpCreate, Size: n})
		for _, given := range []bool{false, true} {
			checkWrong(t, "an offset", api.Call{Op: api.OpRead, Given: given, Off: n})
			checkWrong(t, "a count", api.Call{Op: api.OpRead, Given: given, N: n})
			checkWrong(t, "an offset", api.Call{Op: api.OpWrite, Given: given, Off: n})
		}
	}
	for _, n := range []int{math.MinInt, -1, api.MaxId + 1, 3 << 61, math.MaxInt} {
		for _, op := range []int{2, 3, 4, 5, 6, 7} {
			checkWrong(t, "an object", api.Call{Op: op, Cap: api.Cap{Obj: n}})
		}
		checkWrong(t, "an object", api.Call{Op: api.OpRead, Given: true, Cap: api.Cap{Obj: n, Pass: door.Pass}})
	}
	for _, n := range []int{math.MinInt, -1, 256, 257, 1 << 32, math.MaxInt} {
		checkWrong(t, "rights", api.Call{Op: api.OpDerive, Cap: door, Rights: n})
	}
	for _, n := range []int{mostWritten + 1, mostWritten + 2, 1 << 16} {
		checkWrong(t, "data", api.Call{Op: api.OpWrite, Data: make([]byte, n)})
		checkWrong(t, "data", api.Call{Op: api.OpWrite, Given: true, Cap: door, Data: make([]byte, n)})
	}
	for _, n := range []int{256, 257, 511, 512, 1 << 16} {
		checkWrong(t, "gifts", api.Call{Op: api.OpSpawn, Gifts: make([]int, n)})
	}
	for _, op := range []int{api.OpRead, api.OpWrite} {
		for _, w := range []api.Word{{Lo: 1}, {Hi: 1}, {Lo: 1 << 63}, {Hi: 1 << 63}, door.Pass} {
			checkWrong(t, "a word that isn't given", api.Call{Op: op, Cap: api.Cap{Obj: 7, Pass: w}})
		}
	}
}

func TestFieldsThatAnOpDoesNotUse(t *testing.T) { // P20.1
	fields := []struct {
		name string
		used []int
		fill func(c *api.Call)
	}{
		{"Size", []int{1}, func(c *api.Call) { c.Size = -1 }},
		{"Obj", []int{2, 3, 4, 5, 6, 7}, func(c *api.Call) { c.Cap.Obj = 1 }},
		{"Pass.Lo", []int{2, 3, 4, 7}, func(c *api.Call) { c.Cap.Pass.Lo = 1 }},
		{"Pass.Hi", []int{2, 3, 4, 7}, func(c *api.Call) { c.Cap.Pass.Hi = 1 }},
		{"Given", []int{5, 6}, func(c *api.Call) { c.Given = true }},
		{"Given and Pass", []int{5, 6}, func(c *api.Call) { c.Given, c.Cap.Pass = true, door.Pass }},
		{"Rights", []int{3}, func(c *api.Call) { c.Rights = 1 }},
		{"Off", []int{5, 6}, func(c *api.Call) { c.Off = 1 }},
		{"N", []int{5}, func(c *api.Call) { c.N = 1 }},
		{"Data", []int{6}, func(c *api.Call) { c.Data = []byte{0} }},
		{"Index", []int{8}, func(c *api.Call) { c.Index = 1 }},
		{"Gifts", []int{9}, func(c *api.Call) { c.Gifts = []int{0} }},
	}
	for op := 1; op <= 10; op++ {
		for _, f := range fields {
			c := api.Call{Op: op, By: 5}
			f.fill(&c)
			if slices.Contains(f.used, op) {
				checkRight(t, c)
			} else {
				checkWrong(t, f.name, c)
			}
		}
		// A list of no item is none, whoever uses it.
		checkRight(t, api.Call{Op: op, Data: []byte{}, Gifts: []int{}})
		checkRight(t, api.Call{Op: op, Data: make([]byte, 0, 9), Gifts: make([]int, 0, 9)})
	}
}

func TestParseAllBytesByHeads(t *testing.T) { // P20.2: each first byte, each length up to behind the longest fixed form
	for op := range 256 {
		for n := range 45 {
			for _, fill := range []byte{0, 1, 0xff} {
				b := bytes.Repeat([]byte{fill}, n+1)
				b[0] = byte(op)
				checkParse(t, b)
			}
		}
	}
}

func TestParseChangedBytes(t *testing.T) { // P20.2, P20.4: each byte of a call's made another
	for _, c := range rightCalls() {
		b := plainBytes(c)
		for at := range min(len(b), 40) {
			for _, v := range []byte{0, 1, 2, 0x3f, 0x40, 0x41, 0x7f, 0x80, 0xff} {
				changed := slices.Clone(b)
				changed[at] = v
				checkParse(t, changed)
			}
		}
	}
}

func TestParseLongBytes(t *testing.T) { // P20.2
	for op := range 12 {
		for _, n := range []int{511, 512, 513, 514, 515, 1055, 1056, 1057, 1058, 1059, 1 << 16, 1 << 20} {
			b := make([]byte, n)
			b[0] = byte(op)
			checkParse(t, b)
		}
	}
	for count := range 256 {
		for _, n := range []int{2*count - 1, 2 * count, 2*count + 1, 2*count + 2} {
			checkParse(t, slices.Concat([]byte{9, 1, 2, byte(count)}, bytes.Repeat([]byte{3}, max(n, 0))))
		}
	}
}

func TestParseRandomBytes(t *testing.T) { // P20.2, P20.4
	rnd := rand.New(rand.NewSource(20))
	for range 60000 {
		b := make([]byte, rnd.Intn(48))
		rnd.Read(b)
		if len(b) > 0 {
			b[0] = byte(rnd.Intn(12))
		}
		if len(b) > 10 && rnd.Intn(4) > 0 {
			b[10] &= 0x3f
		}
		if len(b) > 11 && rnd.Intn(4) > 0 {
			b[11] &= 1
		}
		checkParse(t, b)
	}
}

func TestUnlikeCallsHaveUnlikeBytes(t *testing.T) { // P20.4
	seen := map[string]api.Call{}
	for _, c := range rightCalls() {
		b, _ := record.Bytes(c)
		if before, there := seen[string(b)]; there && !sameCall(before, c) {
			t.Errorf("P20.4: %+v and %+v are both %x", before, c, b)
		}
		seen[string(b)] = c
	}
}

func TestExamplesOfReplies(t *testing.T) { // P20.3
	for _, x := range []struct {
		op   int
		r    api.Reply
		want string
	}{
		{api.OpCreate, api.Reply{Cap: api.Cap{Obj: 1, Pass: api.Word{Lo: 9}}}, "0000 0100000000000000 0900000000000000" + zeros(8)},
		{api.OpDerive, api.Reply{Cap: full}, "0000 0000000000000040" + strings.Repeat("ff", 16)},
		{api.OpCreate, api.Reply{Code: api.ErrSize}, "0600"},
		{0, api.Reply{Code: api.ErrRecord}, "0100"},
		{0, api.Reply{Code: 65535}, "ffff"},
		{api.OpSpawn, api.Reply{Number: 5}, "0000 0500"},
		{api.OpSpawn, api.Reply{Number: 65535}, "0000 ffff"},
		{api.OpSpawn, api.Reply{}, "0000 0000"},
		{api.OpSpawn, api.Reply{Code: 258}, "0201"},
		{api.OpRead, api.Reply{}, "0000"},
		{api.OpRead, api.Reply{Data: []byte{7, 0}}, "0000 0700"},
		{api.OpWrite, api.Reply{}, "0000"},
		{api.OpExit, api.Reply{}, "0000"},
	} {
		want := unhex(t, x.want)
		if b, code := record.Answer(x.op, x.r); code != api.OK || !bytes.Equal(b, want) {
			t.Errorf("P20.3: Answer(%d, %+v): %x, %d, not %x", x.op, x.r, b, code, want)
		}
		if r, code := record.ParseAnswer(x.op, want); code != api.OK || !sameReply(r, x.r) {
			t.Errorf("P20.3: ParseAnswer(%d, %x): %+v, %d, not %+v", x.op, want, r, code, x.r)
		}
	}
	for _, x := range []struct {
		op int
		s  string
	}{
		{api.OpExit, "0000 00"}, {api.OpExit, ""}, {api.OpExit, "00"}, {0, "0000"}, {0, "0100 00"}, {11, "0000"}, {11, "0100"}, {-1, "0100"},
		{api.OpRead, "0500 00"}, {api.OpSpawn, "0000"}, {api.OpSpawn, "0000 05"}, {api.OpCreate, "0000"}, {api.OpCreate, "0000 0100000000000040" + zeros(16)},
	} {
		if r, code := record.ParseAnswer(x.op, unhex(t, x.s)); code != api.ErrRecord || !reflect.DeepEqual(r, api.Reply{}) {
			t.Errorf("P20.3: ParseAnswer(%d, %s): %+v, %d, not ErrRecord", x.op, x.s, r, code)
		}
	}
}

func checkWrongReply(t *testing.T, op int, r api.Reply) {
	t.Helper()
	if b, code := record.Answer(op, r); code != api.ErrRecord || len(b) != 0 {
		t.Errorf("P20.3: Answer(%d, %+v): %x, %d, not ErrRecord", op, r, b, code)
	}
}

func checkRightReply(t *testing.T, op int, r api.Reply) {
	t.Helper()
	b, code := record.Answer(op, r)
	if code != api.OK {
		t.Errorf("P20.3: Answer(%d, %+v): %d", op, r, code)
		return
	}
	if want, ok := plainParseAnswer(op, b); !ok || !sameReply(want, r) {
		t.Errorf("P20.3: Answer(%d, %+v): %x", op, r, b)
	}
	if back, code := record.ParseAnswer(op, b); code != api.OK || !sameReply(back, r) {
		t.Errorf("P20.4: ParseAnswer(%d, %x): %+v, %d, not %+v", op, b, back, code, r)
	}
	for n := range b {
		checkParseAnswer(t, op, b[:n])
	}
	for _, more := range [][]byte{{0}, {1}, {0, 0}, make([]byte, 24)} {
		checkParseAnswer(t, op, slices.Concat(b, more))
	}
}

func TestRepliesByTheirOps(t *testing.T) { // P20.3, P20.4
	parts := []struct {
		name string
		told []int
		r    api.Reply
	}{
		{"Obj", []int{1, 3}, api.Reply{Cap: api.Cap{Obj: 1}}},
		{"the greatest Obj", []int{1, 3}, api.Reply{Cap: api.Cap{Obj: api.MaxId}}},
		{"Pass.Lo", []int{1, 3}, api.Reply{Cap: api.Cap{Pass: api.Word{Lo: 1}}}},
		{"Pass.Hi", []int{1, 3}, api.Reply{Cap: api.Cap{Pass: api.Word{Hi: 1}}}},
		{"Cap", []int{1, 3}, api.Reply{Cap: odd}},
		{"Data", []int{5}, api.Reply{Data: []byte{0}}},
		{"all Data", []int{5}, api.Reply{Data: bytes.Repeat([]byte{9}, mostRead)}},
		{"Number", []int{9}, api.Reply{Number: 1}},
		{"the greatest Number", []int{9}, api.Reply{Number: 65535}},
	}
	for _, op := range []int{math.MinInt, -1, 11, 12, 256, 257, math.MaxInt} {
		checkWrongReply(t, op, api.Reply{})
		checkWrongReply(t, op, api.Reply{Code: 1})
		for _, p := range parts {
			checkWrongReply(t, op, p.r)
		}
	}
	for op := range 11 {
		if op == 0 {
			checkWrongReply(t, op, api.Reply{})
		} else {
			checkRightReply(t, op, api.Reply{})
		}
		for _, code := range []api.Errno{1, 2, 23, 24, 255, 256, 65534, 65535} {
			checkRightReply(t, op, api.Reply{Code: code})
			checkRightReply(t, op, api.Reply{Code: code, Data: []byte{}})
		}
		for _, code := range []api.Errno{math.MinInt, -65535, -1, 65536, 65537, 1 << 32, math.MaxInt} {
			checkWrongReply(t, op, api.Reply{Code: code})
		}
		for _, p := range parts {
			if slices.Contains(p.told, op) {
				checkRightReply(t, op, p.r)
			} else {
				checkWrongReply(t, op, p.r)
			}
			p.r.Code = 13
			checkWrongReply(t, op, p.r)
		}
	}
}

func TestRepliesOutOfBounds(t *testing.T) { // P20.3
	for op := range 11 {
		for _, n := range []int{math.MinInt, -1, api.MaxId + 1, 3 << 61, math.MaxInt} {
			checkWrongReply(t, op, api.Reply{Cap: api.Cap{Obj: n}})
		}
		for _, n := range []int{math.MinInt, -1, 65536, 1 << 32, math.MaxInt} {
			checkWrongReply(t, op, api.Reply{Number: n})
		}
		for _, n := range []int{mostRead + 1, mostRead + 2, 1 << 16} {
			checkWrongReply(t, op, api.Reply{Data: make([]byte, n)})
		}
	}
}

func TestParseAnswerBytes(t *testing.T) { // P20.3, P20.4
	rnd := rand.New(rand.NewSource(3))
	for op := -2; op < 14; op++ {
		for n := range 40 {
			for _, fill := range []byte{0, 1, 0xff} {
				b := bytes.Repeat([]byte{fill}, n)
				checkParseAnswer(t, op, b)
				if n > 2 {
					b[0], b[1] = 0, 0
					checkParseAnswer(t, op, b)
				}
			}
		}
		for _, n := range []int{1024, 1025, 1026, 1027, 1028, 1 << 16} {
			checkParseAnswer(t, op, make([]byte, n))
		}
		for range 3000 {
			b := make([]byte, rnd.Intn(32))
			rnd.Read(b)
			if len(b) > 1 && rnd.Intn(3) > 0 {
				b[0], b[1] = 0, byte(rnd.Intn(8)/7)
			}
			if len(b) > 9 && rnd.Intn(3) > 0 {
				b[9] &= 0x3f
			}
			checkParseAnswer(t, op, b)
		}
	}
}

// spoil overwrites a list with its spare room.
func spoil[T byte | int](l []T) {
	l = l[:cap(l)]
	for i := range l {
		l[i] = 77
	}
}

// roomy gives a list with spare room, all of the room filled, and the whole of it, to be looked at later.
func roomy[T byte | int](n int) (l, whole []T) {
	whole = slices.Repeat([]T{5}, n+8)
	return whole[:n], whole
}

func untouched[T byte | int](whole []T) bool {
	return !slices.ContainsFunc(whole, func(v T) bool { return v != 5 })
}

func TestMemoryOfCalls(t *testing.T) { // P20.5
	for _, n := range []int{0, 1, 3, 200} {
		row, wholeRow := roomy[byte](n)
		places, wholePlaces := roomy[int](n)
		for _, c := range []api.Call{{Op: api.OpWrite, Given: true, Cap: door, Data: row}, {Op: api.OpSpawn, Gifts: places}, {Op: api.OpExit, Data: row[:0], Gifts: places[:0]}} {
			first, _ := record.Bytes(c)
			kept := slices.Clone(first)
			second, _ := record.Bytes(c)
			spoil(second)
			if !bytes.Equal(first, kept) {
				t.Errorf("P20.5: two answers of Bytes share memory, op %d", c.Op)
			}
			spoil(first)
			if !untouched(wholeRow) || !untouched(wholePlaces) {
				t.Fatalf("P20.5: what Bytes answers shares memory with the call, op %d", c.Op)
			}
			third, _ := record.Bytes(c)
			if !bytes.Equal(third, kept) {
				t.Errorf("P20.5: Bytes answers %x, then %x", kept, third)
			}
			checkParseMemory(t, kept)
		}
	}
}

func checkParseMemory(t *testing.T, laid []byte) {
	t.Helper()
	whole := append(slices.Clone(laid), 1, 2, 3, 4)
	kept := slices.Clone(whole)
	b := whole[:len(laid)]
	first, _ := record.Parse(b)
	second, _ := record.Parse(b)
	spoil(second.Data)
	spoil(second.Gifts)
	if !bytes.Equal(whole, kept) {
		t.Errorf("P20.5: what Parse answers shares memory with %x", laid)
	}
	spoil(whole)
	if want, _ := plainParse(laid); !sameCall(first, want) {
		t.Errorf("P20.5: Parse(%x) became %+v", laid, first)
	}
}

func TestMemoryOfReplies(t *testing.T) { // P20.5
	for _, n := range []int{0, 1, 3, 1024} {
		row, wholeRow := roomy[byte](n)
		r := api.Reply{Data: row}
		first, _ := record.Answer(api.OpRead, r)
		kept := slices.Clone(first)
		second, _ := record.Answer(api.OpRead, r)
		spoil(second)
		if !bytes.Equal(first, kept) {
			t.Error("P20.5: two answers of Answer share memory")
		}
		spoil(first)
		if !untouched(wholeRow) {
			t.Fatal("P20.5: what Answer answers shares memory with the reply")
		}
		whole := append(slices.Clone(kept), 1, 2, 3, 4)
		before := slices.Clone(whole)
		one, _ := record.ParseAnswer(api.OpRead, whole[:len(kept)])
		two, _ := record.ParseAnswer(api.OpRead, whole[:len(kept)])
		spoil(two.Data)
		if !bytes.Equal(whole, before) {
			t.Error("P20.5: what ParseAnswer answers shares memory with the bytes")
		}
		spoil(whole)
		if !sameReply(one, r) {
			t.Errorf("P20.5: ParseAnswer of %d bytes of data became %+v", n, one)
		}
	}
}

func TestNothingIsKept(t *testing.T) { // DOC.md, rule 2: the answer hangs on the arguments alone
	all := rightCalls()
	for i, c := range all {
		record.Parse([]byte{byte(i)})
		record.Bytes(api.Call{Op: i})
		if b, code := record.Bytes(c); code != api.OK || !bytes.Equal(b, plainBytes(c)) {
			t.Errorf("P20.1: behind a refusal: Bytes(%+v): %x, %d", c, b, code)
		}
	}
}

func FuzzParse(f *testing.F) { // P20.2, P20.3, P20.4
	for _, c := range rightCalls() {
		f.Add(plainBytes(c), c.Op)
	}
	f.Fuzz(func(t *testing.T, b []byte, op int) {
		checkParse(t, b)
		checkParseAnswer(t, op, b)
	})
}
