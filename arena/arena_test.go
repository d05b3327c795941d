package arena_test

import (
	"bytes"
	"math"
	"math/rand"
	"slices"
	"testing"

	"sesame/api"
	"sesame/arena"
)

// model: what an arena should hold: each page's bytes, nil for a free one.
type model [][]byte

func newModel(pages int) model { return make(model, pages) }

func (m model) listed(taken bool) []int {
	var out []int
	for n, held := range m {
		if (held != nil) == taken {
			out = append(out, n)
		}
	}
	return out
}

func (m model) take(n int) ([]int, api.Errno) {
	free := m.listed(false)
	if n < 0 {
		return nil, api.ErrSize
	}
	if len(free) < n {
		return nil, api.ErrPages
	}
	for _, number := range free[:n] {
		m[number] = make([]byte, api.PageBytes)
	}
	return free[:n], api.OK
}

func (m model) give(l []int) api.Errno {
	taken := m.listed(true)
	for place, number := range l {
		if !slices.Contains(taken, number) || slices.Contains(l[:place], number) {
			return api.ErrNone
		}
	}
	for _, number := range l {
		m[number] = nil
	}
	return api.OK
}

func (m model) write(number, off int, data []byte) api.Errno {
	if !slices.Contains(m.listed(true), number) {
		return api.ErrNone
	}
	if off < 0 || off > api.PageBytes || len(data) > api.PageBytes-off {
		return api.ErrRange
	}
	for i, b := range data {
		m[number][off+i] = b
	}
	return api.OK
}

func mustNew(t *testing.T, pages int) *arena.Arena {
	t.Helper()
	a, code := arena.New(pages)
	if a == nil || code != api.OK {
		t.Fatalf("P6.1: New(%d): %v, %d", pages, a, code)
	}
	return a
}

func wantTake(t *testing.T, a *arena.Arena, n int, want []int, wantCode api.Errno) {
	t.Helper()
	if l, code := a.Take(n); !slices.Equal(l, want) || code != wantCode {
		t.Fatalf("P6.2: Take(%d): %v, %d; want %v, %d", n, l, code, want, wantCode)
	}
}

func wantGive(t *testing.T, a *arena.Arena, l []int, want api.Errno) {
	t.Helper()
	if code := a.Give(l); code != want {
		t.Fatalf("P6.3: Give(%v): %d, not %d", l, code, want)
	}
}

func wantRead(t *testing.T, a *arena.Arena, number, off, n int, want string, wantCode api.Errno) {
	t.Helper()
	if b, code := a.Read(number, off, n); string(b) != want || code != wantCode {
		t.Fatalf("P6.4: Read(%d, %d, %d): %q, %d; want %q, %d", number, off, n, b, code, want, wantCode)
	}
}

func wantWrite(t *testing.T, a *arena.Arena, number, off int, data string, want api.Errno) {
	t.Helper()
	if code := a.Write(number, off, []byte(data)); code != want {
		t.Fatalf("P6.4: Write(%d, %d, %d bytes): %d, not %d", number, off, len(data), code, want)
	}
}

// wantHeld holds all that can be told of an arena against the model.
func wantHeld(t *testing.T, a *arena.Arena, m model) {
	t.Helper()
	if a.Free() != len(m.listed(false)) || !slices.Equal(a.Taken(), m.listed(true)) {
		t.Fatalf("P6.5: free %d, taken %v; want %d, %v", a.Free(), a.Taken(), len(m.listed(false)), m.listed(true))
	}
	for number := -1; number <= len(m); number++ {
		b, code := a.Read(number, 0, api.PageBytes)
		if !slices.Contains(m.listed(true), number) {
			if len(b) != 0 || code != api.ErrNone {
				t.Fatalf("P6.4: page %d is not taken: %v, %d", number, b, code)
			}
		} else if !bytes.Equal(b, m[number]) || code != api.OK {
			t.Fatalf("P6.7: page %d: %v, %d; want %v", number, b, code, m[number])
		}
	}
}

// pattern: bytes none of which is zero, other ones for each page.
func pattern(number int) string {
	b := make([]byte, api.PageBytes)
	for i := range b {
		b[i] = byte(1 + (number*7+i*3)%255)
	}
	return string(b)
}

// filled gives an arena with the first pages taken and full, and the model of it.
func filled(t *testing.T, pages, taken int) (*arena.Arena, model) {
	t.Helper()
	a, m := mustNew(t, pages), newModel(pages)
	l, _ := m.take(taken)
	wantTake(t, a, taken, l, api.OK)
	for _, number := range l {
		wantWrite(t, a, number, 0, pattern(number), api.OK)
		m.write(number, 0, []byte(pattern(number)))
	}
	return a, m
}

var farOff = []int{math.MinInt, math.MinInt + 1, math.MinInt32, -65536, -257, -256, -65, -64, -2, -1, math.MaxInt32, 1 << 32, 1<<32 + 1, math.MaxInt - 64, math.MaxInt - 1, math.MaxInt}

func TestNewRefuses(t *testing.T) { // P6.1
	for _, pages := range append([]int{api.MaxPages + 1, api.MaxPages + 2, 512, 65536}, farOff...) {
		if a, code := arena.New(pages); a != nil || code != api.ErrConfig {
			t.Errorf("P6.1: New(%d): %v, %d", pages, a, code)
		}
	}
}

func TestNewOfEachSize(t *testing.T) { // P6.1, P6.2, P6.5
	for pages := range api.MaxPages + 1 {
		a, m := mustNew(t, pages), newModel(pages)
		wantHeld(t, a, m)
		wantTake(t, a, pages+1, nil, api.ErrPages)
		l, _ := m.take(pages)
		wantTake(t, a, pages, l, api.OK)
		wantHeld(t, a, m)
		wantTake(t, a, 1, nil, api.ErrPages)
		wantTake(t, a, 0, nil, api.OK)
		wantGive(t, a, l, api.OK)
		wantHeld(t, a, newModel(pages))
	}
}

func TestExamples(t *testing.T) { // P6.1 to P6.5, P6.7
	none := mustNew(t, 0)
	wantTake(t, none, 0, nil, api.OK)
	wantTake(t, none, 1, nil, api.ErrPages)
	a := mustNew(t, 3)
	wantTake(t, a, 2, []int{0, 1}, api.OK)
	wantWrite(t, a, 1, 62, "ab", api.OK)
	wantWrite(t, a, 1, 63, "ab", api.ErrRange)
	wantWrite(t, a, 1, -1, "", api.ErrRange)
	wantWrite(t, a, 1, math.MaxInt, "a", api.ErrRange)
	wantRead(t, a, 1, 60, 4, "\x00\x00ab", api.OK)
	wantRead(t, a, 2, 0, 1, "", api.ErrNone)
	wantRead(t, a, 1, 64, 0, "", api.OK)
	wantRead(t, a, 1, 65, 0, "", api.ErrRange)
	wantGive(t, a, []int{1, 0, 1}, api.ErrNone)
	wantGive(t, a, []int{0}, api.OK)
	if a.Free() != 2 || !slices.Equal(a.Taken(), []int{1}) {
		t.Fatalf("P6.5: free %d, taken %v", a.Free(), a.Taken())
	}
	wantTake(t, a, 2, []int{0, 2}, api.OK)
	wantTake(t, a, 1, nil, api.ErrPages)
	wantGive(t, a, nil, api.OK)
	wantTake(t, a, -1, nil, api.ErrSize)
	wantGive(t, a, []int{1}, api.OK)
	wantTake(t, a, 1, []int{1}, api.OK)
	wantRead(t, a, 1, 62, 2, "\x00\x00", api.OK)
}

// TestTakeRefuses: a number below 0 comes ahead of too few free ones, and nothing is taken.
func TestTakeRefuses(t *testing.T) { // P6.2
	for _, pages := range []int{0, 1, 8, api.MaxPages} {
		for _, taken := range []int{0, pages / 2, pages} {
			a, m := filled(t, pages, taken)
			for _, n := range append([]int{pages - taken + 1, pages + 1, api.MaxPages + 1}, farOff...) {
				want := api.ErrPages
				if n < 0 {
					want = api.ErrSize
				}
				wantTake(t, a, n, nil, want)
			}
			wantHeld(t, a, m)
		}
	}
}

// TestTakeLowest goes through all ways in which 7 pages may be taken or free.
func TestTakeLowest(t *testing.T) { // P6.2
	const pages = 7
	for pick := range 1 << pages {
		for n := range pages + 2 {
			a, m := filled(t, pages, pages)
			var back []int
			for number := range pages {
				if pick>>number&1 == 1 {
					back = append(back, number)
				}
			}
			m.give(back)
			wantGive(t, a, back, api.OK)
			want, code := m.take(n)
			wantTake(t, a, n, want, code)
			wantHeld(t, a, m)
		}
	}
}

// TestGiveLists goes through all lists of at most 4 numbers of which some are no pages and some are free.
func TestGiveLists(t *testing.T) { // P6.3
	var lists func(l []int)
	lists = func(l []int) {
		a, m := filled(t, 4, 3)
		want := m.give(l)
		wantGive(t, a, l, want)
		wantHeld(t, a, m)
		if len(l) < 4 {
			for number := -1; number <= 4; number++ {
				lists(append(slices.Clone(l), number))
			}
		}
	}
	lists(nil)
}

func TestGiveRefuses(t *testing.T) { // P6.3
	for _, pages := range []int{0, 1, 5, api.MaxPages} {
		a, m := filled(t, pages, pages)
		all := m.listed(true)
		for _, wrong := range append([]int{pages, pages + 1, api.MaxPages, api.MaxPages + 1}, farOff...) {
			wantGive(t, a, []int{wrong}, api.ErrNone)
			wantGive(t, a, append(slices.Clone(all), wrong), api.ErrNone)
			wantGive(t, a, append([]int{wrong}, all...), api.ErrNone)
		}
		for _, twice := range all {
			wantGive(t, a, append(slices.Clone(all), twice), api.ErrNone)
			wantGive(t, a, append([]int{twice}, all...), api.ErrNone)
		}
		wantHeld(t, a, m)
	}
	a, m := filled(t, 9, 5)
	wantGive(t, a, []int{0, 1, 2, 3, 4, 5}, api.ErrNone)
	wantGive(t, a, slices.Repeat([]int{3}, 1000), api.ErrNone)
	wantHeld(t, a, m)
	wantGive(t, a, []int{4, 2}, api.OK)
	wantGive(t, a, []int{2}, api.ErrNone)
	m.give([]int{4, 2})
	wantHeld(t, a, m)
}

func TestReadEachPlace(t *testing.T) { // P6.4
	a, m := filled(t, 3, 2)
	full := pattern(1)
	for off := -2; off <= api.PageBytes+2; off++ {
		for n := -2; n <= api.PageBytes+2; n++ {
			wrong := off < 0 || n < 0 || off+n > api.PageBytes
			want, code := "", api.ErrRange
			if !wrong {
				want, code = full[off:off+n], api.OK
			}
			wantRead(t, a, 1, off, n, want, code)
			wantRead(t, a, 2, off, n, "", api.ErrNone)
			wantRead(t, a, 3, off, n, "", api.ErrNone)
		}
	}
	wantHeld(t, a, m)
}

func TestWriteEachPlace(t *testing.T) { // P6.4
	long := pattern(5) + pattern(6)
	for off := -2; off <= api.PageBytes+2; off++ {
		for n := 0; n <= api.PageBytes+2; n++ {
			a, m := filled(t, 3, 2)
			code := m.write(1, off, []byte(long[:n]))
			if (code == api.ErrRange) != (off < 0 || off+n > api.PageBytes) {
				t.Fatalf("the model errs: %d, %d", off, n)
			}
			wantWrite(t, a, 1, off, long[:n], code)
			wantWrite(t, a, 2, off, long[:n], api.ErrNone)
			wantWrite(t, a, -1, off, long[:n], api.ErrNone)
			wantHeld(t, a, m)
		}
	}
}

// TestFarPlaces: numbers whose sum wraps round are refused too, and no page comes ahead of no place.
func TestFarPlaces(t *testing.T) { // P6.4
	a, m := filled(t, 4, 2)
	for _, far := range farOff {
		for _, other := range append([]int{0, 1, 63, 64, 65}, farOff...) {
			wantRead(t, a, 1, far, other, "", api.ErrRange)
			wantRead(t, a, 1, other, far, "", api.ErrRange)
			for _, number := range append([]int{2, 3, 4, 256, 257}, farOff...) {
				wantRead(t, a, number, far, other, "", api.ErrNone)
			}
		}
		for _, data := range []string{"", "a", pattern(0), pattern(0) + "b"} {
			wantWrite(t, a, 1, far, data, api.ErrRange)
			wantWrite(t, a, 3, far, data, api.ErrNone)
			wantWrite(t, a, far, 0, data, api.ErrNone)
			wantWrite(t, a, far, far, data, api.ErrNone)
		}
		wantRead(t, a, far, 0, 0, "", api.ErrNone)
	}
	wantWrite(t, a, 0, 0, string(make([]byte, 1<<20)), api.ErrRange)
	wantHeld(t, a, m)
}

// TestErrorsLeaveNothing: beside an error a list is nil or empty.
func TestErrorsLeaveNothing(t *testing.T) { // P6.2, P6.4
	a, _ := filled(t, 4, 4)
	for _, n := range []int{-1, 1} {
		if l, code := a.Take(n); len(l) != 0 || code == api.OK {
			t.Errorf("P6.2: Take(%d): %v, %d", n, l, code)
		}
	}
	for _, c := range [][3]int{{4, 0, 1}, {0, 0, 65}, {0, -1, 2}, {0, 60, 5}} {
		if b, code := a.Read(c[0], c[1], c[2]); len(b) != 0 || code == api.OK {
			t.Errorf("P6.4: Read(%v): %v, %d", c, b, code)
		}
	}
}

// TestKeepsNothing: lists and bytes that were handed in are neither changed nor kept, with their spare room.
func TestKeepsNothing(t *testing.T) { // P6.6
	a, m := filled(t, 6, 6)
	data := []byte("0123456789abcdef")
	before := bytes.Clone(data)
	if code := a.Write(2, 5, data[:8]); code != api.OK || !bytes.Equal(data, before) {
		t.Fatalf("P6.6: Write: %d, %q", code, data)
	}
	m.write(2, 5, before[:8])
	clear(data)
	wantHeld(t, a, m)
	wantWrite(t, a, 3, 0, "xy", api.OK)
	m.write(3, 0, []byte("xy"))
	if !bytes.Equal(data, make([]byte, len(data))) {
		t.Fatalf("P6.6: a later write shows in what was handed in: %q", data)
	}
	l := []int{5, 0, 3, 1, 2, 4}
	for _, c := range []struct {
		n    int
		want api.Errno
	}{{3, api.OK}, {3, api.ErrNone}} {
		wantGive(t, a, l[:c.n], c.want)
		if !slices.Equal(l, []int{5, 0, 3, 1, 2, 4}) {
			t.Fatalf("P6.6: Give has changed its list: %v", l)
		}
	}
	m.give([]int{5, 0, 3})
	for i := range l {
		l[i] = -7
	}
	wantHeld(t, a, m)
	wantTake(t, a, 2, []int{0, 3}, api.OK)
	if slices.ContainsFunc(l, func(n int) bool { return n != -7 }) {
		t.Fatalf("P6.6: Take has written into Give's list: %v", l)
	}
}

// scribble writes over a list and its spare room.
func scribble[T int | byte](l []T) {
	for i := range l[:cap(l)] {
		l[:cap(l)][i] = 99
	}
}

// TestAnswersAreNew: what is done to an answer, its spare room too, shows nowhere.
func TestAnswersAreNew(t *testing.T) { // P6.6
	a, m := filled(t, 8, 3)
	for _, c := range [][3]int{{1, 0, 64}, {1, 0, 0}, {1, 10, 20}, {1, 63, 1}, {0, 0, 1}, {2, 64, 0}} {
		one, _ := a.Read(c[0], c[1], c[2])
		other, _ := a.Read(c[0], c[1], c[2])
		kept := bytes.Clone(other)
		scribble(one)
		if !bytes.Equal(other, kept) {
			t.Fatalf("P6.6: two reads of %v share memory", c)
		}
		scribble(other)
		wantHeld(t, a, m)
	}
	for _, n := range []int{0, 1, 2} {
		l, _ := a.Take(n)
		m.take(n)
		scribble(l)
		wantHeld(t, a, m)
	}
	one, other := a.Taken(), a.Taken()
	scribble(one)
	if !slices.Equal(other, m.listed(true)) {
		t.Fatalf("P6.6: two answers of Taken share memory: %v", other)
	}
	scribble(other)
	wantHeld(t, a, m)
	wantTake(t, a, 2, []int{6, 7}, api.OK)
}

// TestReadStays: what was read stays as it was, whatever is done to the page.
func TestReadStays(t *testing.T) { // P6.6
	a, _ := filled(t, 2, 2)
	b, _ := a.Read(1, 0, api.PageBytes)
	wantWrite(t, a, 1, 0, pattern(9), api.OK)
	if string(b) != pattern(1) {
		t.Fatalf("P6.6: a write shows in what was read: %q", b)
	}
	wantGive(t, a, []int{1}, api.OK)
	wantTake(t, a, 1, []int{1}, api.OK)
	if string(b) != pattern(1) {
		t.Fatalf("P6.6: a page given back shows in what was read: %q", b)
	}
}

// TestTakenAgain: each byte of a page is zero again, be it the only one that was written.
func TestTakenAgain(t *testing.T) { // P6.7
	a, m := filled(t, 3, 3)
	for off := range api.PageBytes {
		for number := range 3 {
			m.give([]int{number})
			wantGive(t, a, []int{number}, api.OK)
			m.take(1)
			wantTake(t, a, 1, []int{number}, api.OK)
			wantHeld(t, a, m)
			m.write(number, off, []byte{200})
			wantWrite(t, a, number, off, "\xc8", api.OK)
		}
	}
}

// TestTwoArenas: what is done to one shows in no other.
func TestTwoArenas(t *testing.T) { // P6.7
	one, m := filled(t, 5, 5)
	other, n := filled(t, 5, 2)
	wantGive(t, other, []int{0}, api.OK)
	n.give([]int{0})
	wantHeld(t, one, m)
	wantWrite(t, one, 1, 3, "one", api.OK)
	m.write(1, 3, []byte("one"))
	wantHeld(t, other, n)
	wantHeld(t, one, m)
}

// someNumbers: taken pages mostly, and now and then a free one, none, or one twice.
func someNumbers(r *rand.Rand, m model) []int {
	l := m.listed(true)
	r.Shuffle(len(l), func(i, j int) { l[i], l[j] = l[j], l[i] })
	l = l[:r.Intn(len(l)+1)]
	if r.Intn(4) == 0 {
		l = append(l, r.Intn(len(m)+4)-2)
	}
	return l
}

// TestRandomSteps holds calls in any order against the model.
func TestRandomSteps(t *testing.T) { // P6.2 to P6.5, P6.7
	r := rand.New(rand.NewSource(6))
	for range 150 {
		pages := r.Intn(12)
		a, m := mustNew(t, pages), newModel(pages)
		for range 80 {
			switch r.Intn(4) {
			case 0:
				n := r.Intn(pages/2+4) - 1
				want, code := m.take(n)
				wantTake(t, a, n, want, code)
			case 1:
				l := someNumbers(r, m)
				wantGive(t, a, l, m.give(l))
			default:
				number, off := r.Intn(pages+4)-2, r.Intn(api.PageBytes+6)-3
				data := make([]byte, r.Intn(30))
				r.Read(data)
				wantWrite(t, a, number, off, string(data), m.write(number, off, data))
			}
			wantHeld(t, a, m)
		}
	}
}
