package store_test

import (
	"bytes"
	"math"
	"math/rand"
	"slices"
	"testing"

	"sesame/api"
	"sesame/store"
)

// entry: an object as the model has it.
type entry struct {
	id   int
	data []byte
}

// model: what a store should hold, a list by rising numbers, each object's bytes in one row.
type model struct {
	room, pages, next int
	held              []entry
}

func newModel(objects, pages int) *model { return &model{room: objects, pages: pages, next: 1} }

// pagesOf counts by steps of a page, where the chapter divides.
func pagesOf(size int) int {
	n := 0
	for n*api.PageBytes < size {
		n++
	}
	return n
}

func (m *model) free() int {
	n := m.pages
	for _, e := range m.held {
		n -= pagesOf(len(e.data))
	}
	return n
}

func (m *model) ids() []int {
	var out []int
	for _, e := range m.held {
		out = append(out, e.id)
	}
	return out
}

func (m *model) find(id int) int {
	return slices.IndexFunc(m.held, func(e entry) bool { return e.id == id })
}

func (m *model) create(size int) (int, api.Errno) {
	switch {
	case size < 0 || size > 4096:
		return 0, api.ErrSize
	case len(m.held) == m.room || m.next > 1<<62:
		return 0, api.ErrFull
	case pagesOf(size) > m.free():
		return 0, api.ErrPages
	}
	m.held = append(m.held, entry{m.next, make([]byte, size)})
	m.next++
	return m.next - 1, api.OK
}

func (m *model) destroy(id int) api.Errno {
	place := m.find(id)
	if place < 0 {
		return api.ErrNone
	}
	m.held = slices.Delete(m.held, place, place+1)
	return api.OK
}

// read answers a piece of the model itself: it is held against, or written over.
func (m *model) read(id, off, n int) ([]byte, api.Errno) {
	place := m.find(id)
	if place < 0 {
		return nil, api.ErrNone
	}
	data := m.held[place].data
	if off < 0 || n < 0 || n > 1024 || off > len(data) || n > len(data[off:]) {
		return nil, api.ErrRange
	}
	return data[off : off+n], api.OK
}

func (m *model) write(id, off int, data []byte) api.Errno {
	there, code := m.read(id, off, len(data))
	copy(there, data)
	return code
}

func (m *model) setNext(n int) api.Errno {
	if n < 1 || n > 1<<62+1 || slices.ContainsFunc(m.held, func(e entry) bool { return e.id >= n }) {
		return api.ErrRange
	}
	m.next = n
	return api.OK
}

func mustNew(t *testing.T, objects, pages int) *store.Store {
	t.Helper()
	s, code := store.New(objects, pages)
	if s == nil || code != api.OK {
		t.Fatalf("P7.1: New(%d, %d): %v, %d", objects, pages, s, code)
	}
	return s
}

func wantCreate(t *testing.T, s *store.Store, size, want int, wantCode api.Errno) {
	t.Helper()
	if code := s.May(size); code != wantCode {
		t.Fatalf("P7.2: May(%d): %d, not %d", size, code, wantCode)
	}
	if id, code := s.Create(size); id != want || code != wantCode {
		t.Fatalf("P7.2: Create(%d): %d, %d; want %d, %d", size, id, code, want, wantCode)
	}
}

func wantDestroy(t *testing.T, s *store.Store, id int, want api.Errno) {
	t.Helper()
	if code := s.Destroy(id); code != want {
		t.Fatalf("P7.3: Destroy(%d): %d, not %d", id, code, want)
	}
}

func wantRead(t *testing.T, s *store.Store, id, off, n int, want []byte, wantCode api.Errno) {
	t.Helper()
	if b, code := s.Read(id, off, n); !bytes.Equal(b, want) || code != wantCode {
		t.Fatalf("P7.4: Read(%d, %d, %d): %x, %d; want %x, %d", id, off, n, b, code, want, wantCode)
	}
}

func wantWrite(t *testing.T, s *store.Store, id, off int, data []byte, want api.Errno) {
	t.Helper()
	if code := s.Write(id, off, data); code != want {
		t.Fatalf("P7.4: Write(%d, %d, %d bytes): %d, not %d", id, off, len(data), code, want)
	}
}

func wantSetNext(t *testing.T, s *store.Store, n int, want api.Errno) {
	t.Helper()
	if code := s.SetNext(n); code != want {
		t.Fatalf("P7.5: SetNext(%d): %d, not %d", n, code, want)
	}
}

func wantGone(t *testing.T, s *store.Store, id int) {
	t.Helper()
	if size, there := s.Size(id); size != 0 || there {
		t.Fatalf("P7.5: Size(%d): %d, %v", id, size, there)
	}
	wantRead(t, s, id, 0, 0, nil, api.ErrNone)
}

// wantHeld holds all that can be told of a store against the model.
func wantHeld(t *testing.T, s *store.Store, m *model) {
	t.Helper()
	if s.Free() != m.free() || s.Next() != m.next || !slices.Equal(s.Ids(), m.ids()) {
		t.Fatalf("P7.5: free %d, next %d, ids %v; want %d, %d, %v", s.Free(), s.Next(), s.Ids(), m.free(), m.next, m.ids())
	}
	for _, e := range m.held {
		if size, there := s.Size(e.id); size != len(e.data) || !there {
			t.Fatalf("P7.5: Size(%d): %d, %v; want %d", e.id, size, there, len(e.data))
		}
		for off := 0; off <= len(e.data); off += api.MaxMove {
			n := min(api.MaxMove, len(e.data)-off)
			wantRead(t, s, e.id, off, n, e.data[off:off+n], api.OK)
		}
		for _, near := range []int{e.id - 1, e.id + 1} {
			if m.find(near) < 0 {
				wantGone(t, s, near)
			}
		}
	}
	wantGone(t, s, m.next)
	wantGone(t, s, 0)
}

// pattern: bytes none of which is zero, other ones for each seed, and for each page.
func pattern(seed, n int) []byte {
	b := make([]byte, n)
	for i := range b {
		b[i] = byte(1 + (seed*31+i*3+i/api.PageBytes*7)%255)
	}
	return b
}

// filled gives a store with objects of these sizes, none of their bytes zero, and the model of it.
func filled(t *testing.T, objects, pages int, sizes ...int) (*store.Store, *model) {
	t.Helper()
	s, m := mustNew(t, objects, pages), newModel(objects, pages)
	for _, size := range sizes {
		id, code := m.create(size)
		wantCreate(t, s, size, id, code)
		for off := 0; off < size; off += api.MaxMove {
			part := pattern(id+off, min(api.MaxMove, size-off))
			m.write(id, off, part)
			wantWrite(t, s, id, off, part, api.OK)
		}
	}
	wantHeld(t, s, m)
	return s, m
}

var farOff = []int{math.MinInt, math.MinInt + 1, math.MinInt32, -65536, -4097, -4096, -1025, -1024, -65, -64, -2, -1, math.MaxInt32, 1 << 32, 1<<32 + 1, 1<<62 + 2, math.MaxInt - 1024, math.MaxInt - 64, math.MaxInt - 1, math.MaxInt}

func TestNewRefuses(t *testing.T) { // P7.1
	wrong := append([]int{0, 257, 258, 512, 65536}, farOff...)
	for _, n := range wrong {
		for _, c := range append([]int{1, 2, 63, 64, 65, 256}, wrong...) {
			for _, pair := range [][2]int{{n, c}, {c, n}} {
				if s, code := store.New(pair[0], pair[1]); s != nil || code != api.ErrConfig {
					t.Fatalf("P7.1: New(%v): %v, %d", pair, s, code)
				}
			}
		}
	}
	for _, objects := range []int{65, 66, 128, 256} {
		if s, code := store.New(objects, 1); s != nil || code != api.ErrConfig {
			t.Fatalf("P7.1: New(%d, 1): %v, %d", objects, s, code)
		}
	}
}

// TestNewOfEachSize fills each store up with objects, with pages, and empties it.
func TestNewOfEachSize(t *testing.T) { // P7.1, P7.2
	for pages := 1; pages <= api.MaxPages; pages++ {
		objects := 1 + pages%api.MaxObjects
		s, m := mustNew(t, objects, pages), newModel(objects, pages)
		wantHeld(t, s, m)
		for range objects {
			id, code := m.create(0)
			wantCreate(t, s, 0, id, code)
		}
		wantCreate(t, s, 0, 0, api.ErrFull)
		wantHeld(t, s, m)
	}
	for objects := 1; objects <= api.MaxObjects; objects++ {
		pages, size := 4*objects, 4*api.PageBytes-objects%api.PageBytes
		s, m := mustNew(t, objects, pages), newModel(objects, pages)
		wantHeld(t, s, m)
		for range objects {
			id, code := m.create(size)
			wantCreate(t, s, size, id, code)
		}
		if s.Free() != 0 {
			t.Fatalf("P7.6: %d pages are free", s.Free())
		}
		wantHeld(t, s, m)
		for id := range objects {
			wantDestroy(t, s, id+1, m.destroy(id+1))
			wantHeld(t, s, m)
		}
		if s.Free() != pages {
			t.Fatalf("P7.6: %d pages are free, not %d", s.Free(), pages)
		}
	}
}

func TestExamples(t *testing.T) { // P7.1 to P7.6
	s := mustNew(t, 2, 3)
	wantCreate(t, s, -1, 0, api.ErrSize)
	wantCreate(t, s, 4097, 0, api.ErrSize)
	wantCreate(t, s, 65, 1, api.OK)
	wantCreate(t, s, 65, 0, api.ErrPages)
	wantCreate(t, s, 0, 2, api.OK)
	wantCreate(t, s, 0, 0, api.ErrFull)
	wantCreate(t, s, 4097, 0, api.ErrSize)
	wantCreate(t, s, 4096, 0, api.ErrFull)
	wantRead(t, s, 1, 60, 5, make([]byte, 5), api.OK)
	wantRead(t, s, 1, 60, 6, nil, api.ErrRange)
	wantRead(t, s, 1, 65, 0, nil, api.OK)
	wantRead(t, s, 1, 66, 0, nil, api.ErrRange)
	wantRead(t, s, 1, -1, 1, nil, api.ErrRange)
	wantRead(t, s, 1, 0, 1025, nil, api.ErrRange)
	wantRead(t, s, 1, 1, math.MaxInt, nil, api.ErrRange)
	wantRead(t, s, 3, -1, 0, nil, api.ErrNone)
	wantWrite(t, s, 1, 62, []byte{7, 8, 9}, api.OK)
	wantRead(t, s, 1, 61, 4, []byte{0, 7, 8, 9}, api.OK)
	wantWrite(t, s, 1, 63, []byte{7, 8, 9}, api.ErrRange)
	wantRead(t, s, 1, 61, 4, []byte{0, 7, 8, 9}, api.OK)
	wantWrite(t, s, 2, 0, nil, api.OK)
	wantDestroy(t, s, 1, api.OK)
	if s.Free() != 3 {
		t.Fatalf("P7.3: %d pages are free", s.Free())
	}
	wantDestroy(t, s, 1, api.ErrNone)
	wantCreate(t, s, 65, 3, api.OK)
	wantRead(t, s, 3, 62, 3, make([]byte, 3), api.OK)
	if !slices.Equal(s.Ids(), []int{2, 3}) || s.Next() != 4 {
		t.Fatalf("P7.5: %v, next %d", s.Ids(), s.Next())
	}
	wantSetNext(t, s, 3, api.ErrRange)
	wantSetNext(t, s, 0, api.ErrRange)
	wantSetNext(t, s, 1<<62+2, api.ErrRange)
	wantSetNext(t, s, 1<<62+1, api.OK)
	if code := s.May(1); code != api.ErrFull || s.Next() != 1<<62+1 {
		t.Fatalf("P7.2: May(1): %d, next %d", code, s.Next())
	}
}

// TestPagesOfEachSize: so many pages as an object has must be free, and so many are free no more.
func TestPagesOfEachSize(t *testing.T) { // P7.2, P7.3, P7.6
	for size := range api.MaxBytes + 1 {
		n := pagesOf(size)
		s := mustNew(t, 3, max(n, 1))
		wantCreate(t, s, size, 1, api.OK)
		if s.Free() != max(n, 1)-n {
			t.Fatalf("P7.2: %d pages are free beside an object of %d bytes", s.Free(), size)
		}
		if n > 0 {
			wantCreate(t, s, 1, 0, api.ErrPages)
			wantCreate(t, s, size, 0, api.ErrPages)
		}
		if n > 1 {
			wantCreate(t, mustNew(t, 3, n-1), size, 0, api.ErrPages)
		}
		wantRead(t, s, 1, 0, min(size, api.MaxMove), make([]byte, min(size, api.MaxMove)), api.OK)
		wantDestroy(t, s, 1, api.OK)
		if s.Free() != max(n, 1) {
			t.Fatalf("P7.3: %d pages are free after an object of %d bytes", s.Free(), size)
		}
		wantCreate(t, s, size, 2, api.OK)
	}
}

// TestCreateRefuses: the size comes ahead of full, full ahead of the pages, and nothing changes.
func TestCreateRefuses(t *testing.T) { // P7.2
	sizes := append([]int{4097, 4098, 4160, 8192, 65536}, farOff...)
	for _, room := range []int{2, 3} {
		for _, last := range []bool{false, true} {
			s, m := filled(t, room, 4, 100, 128)
			if last {
				wantSetNext(t, s, 1<<62+1, m.setNext(1<<62+1))
			}
			for _, size := range sizes {
				wantCreate(t, s, size, 0, api.ErrSize)
			}
			full := api.ErrPages
			if last || room == 2 {
				full = api.ErrFull
			}
			for _, size := range []int{1, 64, 65, 4096} {
				wantCreate(t, s, size, 0, full)
			}
			wantHeld(t, s, m)
		}
	}
}

// TestMayChangesNothing: it may be asked again and again.
func TestMayChangesNothing(t *testing.T) { // P7.2
	s, m := filled(t, 3, 10, 130)
	for range 20 {
		for _, size := range []int{-1, 0, 1, 448, 449, 4096, 4097} {
			want := api.OK
			switch {
			case size < 0 || size > 4096:
				want = api.ErrSize
			case size > 448:
				want = api.ErrPages
			}
			if code := s.May(size); code != want {
				t.Fatalf("P7.2: May(%d): %d, not %d", size, code, want)
			}
		}
	}
	wantHeld(t, s, m)
}

func TestDestroyRefuses(t *testing.T) { // P7.3
	s, m := filled(t, 5, 20, 100, 0, 300)
	m.destroy(2)
	wantDestroy(t, s, 2, api.OK)
	for _, id := range append([]int{0, 2, 4, 5, 64, 1 << 62, 1<<62 + 1}, farOff...) {
		wantDestroy(t, s, id, api.ErrNone)
	}
	wantHeld(t, s, m)
}

// TestDestroyEachOrder takes four objects away in all orders; what is left stays, and the pages come back.
func TestDestroyEachOrder(t *testing.T) { // P7.3, P7.6
	var orders func(l []int)
	orders = func(l []int) {
		if len(l) < 4 {
			for id := 1; id <= 4; id++ {
				if !slices.Contains(l, id) {
					orders(append(slices.Clone(l), id))
				}
			}
			return
		}
		s, m := filled(t, 4, 12, 65, 0, 64, 300)
		for _, id := range l {
			wantDestroy(t, s, id, m.destroy(id))
			wantHeld(t, s, m)
			size := 50 * id
			fresh, code := m.create(size)
			wantCreate(t, s, size, fresh, code)
			wantHeld(t, s, m)
		}
	}
	orders(nil)
}

// TestReadEachPlace goes through all places and lengths of an object of some pages, the last one not full.
func TestReadEachPlace(t *testing.T) { // P7.4
	const size = 200
	s, m := filled(t, 3, 12, 64, size, 64)
	for off := -2; off <= size+2; off++ {
		for n := -2; n <= size+2; n++ {
			want, code := m.read(2, off, n)
			if (code == api.OK) != (off >= 0 && n >= 0 && off+n <= size) {
				t.Fatalf("the model errs: %d, %d", off, n)
			}
			wantRead(t, s, 2, off, n, want, code)
		}
	}
	wantHeld(t, s, m)
}

// TestWriteEachPlace does so with writes: all bytes beside them stay.
func TestWriteEachPlace(t *testing.T) { // P7.4
	const size = 140
	s, m := filled(t, 3, 12, 64, size, 64)
	for off := -2; off <= size+2; off++ {
		for n := 0; n <= size+2; n++ {
			data := pattern(off+5*n+9, n)
			wantWrite(t, s, 2, off, data, m.write(2, off, data))
			wantHeld(t, s, m)
		}
	}
}

// TestMoves: at most 1024 bytes at once, in the greatest object too.
func TestMoves(t *testing.T) { // P7.4
	s, m := filled(t, 3, 256, 4096, 1024, 4096)
	for _, off := range []int{0, 1, 63, 64, 65, 1023, 1024, 2048, 3071, 3072, 3073, 4032, 4095, 4096, 4097} {
		for _, n := range []int{0, 1, 64, 1022, 1023, 1024, 1025, 1026, 2048, 4095, 4096, 4097} {
			for id := 1; id <= 4; id++ {
				want, code := m.read(id, off, n)
				wantRead(t, s, id, off, n, want, code)
				data := pattern(off+n+id, n)
				wantWrite(t, s, id, off, data, m.write(id, off, data))
			}
		}
		wantHeld(t, s, m)
	}
	wantWrite(t, s, 1, 0, make([]byte, 1<<20), api.ErrRange)
	wantHeld(t, s, m)
}

// TestFarPlaces: numbers whose sum wraps round are refused too, and no object comes ahead of no place.
func TestFarPlaces(t *testing.T) { // P7.4
	s, m := filled(t, 4, 40, 1500, 0)
	for _, far := range farOff {
		for _, other := range append([]int{0, 1, 64, 1024, 1025, 1500, 1501}, farOff...) {
			for id := 1; id <= 2; id++ {
				wantRead(t, s, id, far, other, nil, api.ErrRange)
				wantRead(t, s, id, other, far, nil, api.ErrRange)
			}
			for _, id := range append([]int{0, 3, 4}, farOff...) {
				wantRead(t, s, id, far, other, nil, api.ErrNone)
			}
		}
		for _, n := range []int{0, 1, 64, 1024, 1025} {
			wantWrite(t, s, 1, far, pattern(0, n), api.ErrRange)
			wantWrite(t, s, 2, far, pattern(0, n), api.ErrRange)
			wantWrite(t, s, 3, far, pattern(0, n), api.ErrNone)
			wantWrite(t, s, far, 0, pattern(0, n), api.ErrNone)
			wantWrite(t, s, far, far, pattern(0, n), api.ErrNone)
		}
		wantGone(t, s, far)
	}
	wantHeld(t, s, m)
}

// TestEmptyObject: no byte, no page, and yet there.
func TestEmptyObject(t *testing.T) { // P7.2 to P7.5
	s, m := filled(t, 2, 1, 64, 0)
	wantRead(t, s, 2, 0, 0, nil, api.OK)
	wantRead(t, s, 2, 0, 1, nil, api.ErrRange)
	wantRead(t, s, 2, 1, 0, nil, api.ErrRange)
	wantWrite(t, s, 2, 0, []byte{}, api.OK)
	wantWrite(t, s, 2, 0, []byte{1}, api.ErrRange)
	wantWrite(t, s, 2, 1, nil, api.ErrRange)
	if size, there := s.Size(2); size != 0 || !there {
		t.Fatalf("P7.5: Size(2): %d, %v", size, there)
	}
	wantHeld(t, s, m)
	wantDestroy(t, s, 2, m.destroy(2))
	wantGone(t, s, 2)
	wantHeld(t, s, m)
}

// TestSetNext: the next number stands above all that are there, and within its bounds; it may go back.
func TestSetNext(t *testing.T) { // P7.5
	s, m := filled(t, 9, 20, 10, 20, 30, 40)
	wantDestroy(t, s, 4, m.destroy(4))
	wantDestroy(t, s, 2, m.destroy(2))
	far := append([]int{0, 1, 2, 3, 4, 5, 6, 1<<62 - 1, 1 << 62, 1<<62 + 1}, farOff...)
	for _, n := range far {
		wantSetNext(t, s, n, m.setNext(n))
		wantHeld(t, s, m)
	}
	wantSetNext(t, s, 4, m.setNext(4))
	wantCreate(t, s, 25, 4, api.OK)
	m.create(25)
	wantSetNext(t, s, 4, api.ErrRange)
	wantHeld(t, s, m)
	for _, id := range []int{1, 3, 4} {
		wantDestroy(t, s, id, m.destroy(id))
	}
	for _, n := range far {
		wantSetNext(t, s, n, m.setNext(n))
		wantHeld(t, s, m)
	}
	wantSetNext(t, s, 1, m.setNext(1))
	wantCreate(t, s, 7, 1, api.OK)
}

// TestLastNumbers: 2^62 is given; no number is given behind it, though there is room.
func TestLastNumbers(t *testing.T) { // P7.2, P7.5
	s, m := filled(t, 9, 20, 10)
	wantSetNext(t, s, 1<<62-1, m.setNext(1<<62-1))
	for _, size := range []int{70, 0} {
		id, code := m.create(size)
		wantCreate(t, s, size, id, code)
		wantHeld(t, s, m)
	}
	for range 3 {
		wantCreate(t, s, 0, 0, api.ErrFull)
	}
	wantWrite(t, s, 1<<62-1, 60, pattern(3, 10), m.write(1<<62-1, 60, pattern(3, 10)))
	wantHeld(t, s, m)
	wantSetNext(t, s, 1<<62, api.ErrRange)
	wantSetNext(t, s, 1<<62+1, api.OK)
	wantDestroy(t, s, 1<<62, m.destroy(1<<62))
	wantCreate(t, s, 0, 0, api.ErrFull)
	wantSetNext(t, s, 1<<62, m.setNext(1<<62))
	wantCreate(t, s, 0, 1<<62, api.OK)
	m.create(0)
	wantHeld(t, s, m)
}

// TestIdsRise: many numbers, set far apart and taken away in any order, are told rising, each time.
func TestIdsRise(t *testing.T) { // P7.5
	r := rand.New(rand.NewSource(75))
	for range 30 {
		s, m := mustNew(t, 64, 1), newModel(64, 1)
		for range 64 {
			n := m.next + r.Intn(3)*r.Intn(1<<r.Intn(40))
			wantSetNext(t, s, n, m.setNext(n))
			id, code := m.create(0)
			wantCreate(t, s, 0, id, code)
		}
		for len(m.held) > 0 {
			if !slices.Equal(s.Ids(), m.ids()) || !slices.IsSorted(s.Ids()) {
				t.Fatalf("P7.5: %v, not %v", s.Ids(), m.ids())
			}
			id := m.held[r.Intn(len(m.held))].id
			wantDestroy(t, s, id, m.destroy(id))
		}
	}
}

// TestNeverTwice: without SetNext each number is one more than the last, though objects come and go.
func TestNeverTwice(t *testing.T) { // P7.6
	s := mustNew(t, 1, 64)
	for want := 1; want <= 3000; want++ {
		wantCreate(t, s, want%4097, want, api.OK)
		wantCreate(t, s, 0, 0, api.ErrFull)
		wantDestroy(t, s, want, api.OK)
		wantGone(t, s, want)
	}
}

// TestNewReadsZeros: pages that were full are zeros in the next object, behind the end of the last one too.
func TestNewReadsZeros(t *testing.T) { // P7.6
	for _, size := range []int{1, 63, 64, 65, 500, 1024} {
		s, _ := filled(t, 2, 16, size)
		for id := 1; id < 8; id++ {
			wantDestroy(t, s, id, api.OK)
			wantCreate(t, s, 1024, id+1, api.OK)
			wantRead(t, s, id+1, 0, 1024, make([]byte, 1024), api.OK)
			wantWrite(t, s, id+1, 0, pattern(id, 1024), api.OK)
		}
	}
}

// TestErrorsLeaveNothing: beside an error a list is nil or empty, a number 0.
func TestErrorsLeaveNothing(t *testing.T) { // P7.2, P7.4
	s, _ := filled(t, 2, 3, 130)
	for _, size := range []int{-1, 4097, 1} {
		if id, code := s.Create(size); id != 0 || code == api.OK {
			t.Errorf("P7.2: Create(%d): %d, %d", size, id, code)
		}
	}
	for _, c := range [][3]int{{2, 0, 1}, {1, 0, 131}, {1, -1, 2}, {1, 130, 1}, {1, 1, 1025}} {
		if b, code := s.Read(c[0], c[1], c[2]); len(b) != 0 || code == api.OK {
			t.Errorf("P7.4: Read(%v): %v, %d", c, b, code)
		}
	}
}

// TestKeepsNothing: bytes that were handed in are neither changed nor kept, with their spare room.
func TestKeepsNothing(t *testing.T) { // P7.7
	s, m := filled(t, 2, 8, 300, 100)
	data := pattern(77, 400)
	before := bytes.Clone(data)
	for _, c := range []struct{ off, n int }{{0, 200}, {50, 128}, {64, 64}, {200, 100}, {299, 1}, {250, 60}, {300, 0}} {
		wantWrite(t, s, 1, c.off, data[:c.n], m.write(1, c.off, before[:c.n]))
		if !bytes.Equal(data, before) {
			t.Fatalf("P7.7: Write has changed its bytes: %x", data)
		}
		clear(data)
		wantHeld(t, s, m)
		wantWrite(t, s, 1, 1, []byte{9, 9}, m.write(1, 1, []byte{9, 9}))
		if !bytes.Equal(data, make([]byte, 400)) {
			t.Fatalf("P7.7: a later write shows in what was handed in: %x", data)
		}
		copy(data, before)
	}
}

// scribble writes over a list and its spare room.
func scribble[T int | byte](l []T) {
	for i := range l[:cap(l)] {
		l[:cap(l)][i] = 99
	}
}

// TestAnswersAreNew: what is done to an answer, its spare room too, shows nowhere.
func TestAnswersAreNew(t *testing.T) { // P7.7
	s, m := filled(t, 5, 30, 64, 300, 1100)
	for _, c := range [][3]int{{1, 0, 64}, {1, 10, 5}, {1, 64, 0}, {2, 0, 300}, {2, 60, 70}, {2, 128, 64}, {3, 0, 1024}, {3, 1099, 1}} {
		one, _ := s.Read(c[0], c[1], c[2])
		other, _ := s.Read(c[0], c[1], c[2])
		kept := bytes.Clone(other)
		scribble(one)
		if !bytes.Equal(other, kept) {
			t.Fatalf("P7.7: two reads of %v share memory", c)
		}
		scribble(other)
		wantHeld(t, s, m)
	}
	one, other := s.Ids(), s.Ids()
	scribble(one)
	if !slices.Equal(other, m.ids()) {
		t.Fatalf("P7.7: two answers of Ids share memory: %v", other)
	}
	scribble(other)
	wantHeld(t, s, m)
	id, code := m.create(70)
	wantCreate(t, s, 70, id, code)
	wantHeld(t, s, m)
}

// TestAnswersStay: what was read or told stays as it was, whatever is done to the store.
func TestAnswersStay(t *testing.T) { // P7.7
	s, m := filled(t, 3, 10, 150, 20)
	read, _ := s.Read(1, 0, 150)
	kept, ids := bytes.Clone(read), s.Ids()
	data := pattern(40, 150)
	wantWrite(t, s, 1, 0, data, m.write(1, 0, data))
	wantDestroy(t, s, 1, m.destroy(1))
	id, code := m.create(400)
	wantCreate(t, s, 400, id, code)
	wantHeld(t, s, m)
	if !bytes.Equal(read, kept) || !slices.Equal(ids, []int{1, 2}) {
		t.Fatalf("P7.7: answers have changed: %x, %v", read, ids)
	}
}

// TestTwoStores: what is done to one shows in no other.
func TestTwoStores(t *testing.T) { // P7.7
	one, m := filled(t, 3, 6, 100, 64)
	other, n := filled(t, 3, 6, 100, 64)
	wantWrite(t, one, 1, 60, []byte("one"), m.write(1, 60, []byte("one")))
	wantHeld(t, other, n)
	wantDestroy(t, one, 2, m.destroy(2))
	wantHeld(t, other, n)
	wantSetNext(t, one, 9, m.setNext(9))
	wantHeld(t, other, n)
	id, code := n.create(190)
	wantCreate(t, other, 190, id, code)
	wantHeld(t, one, m)
	wantHeld(t, other, n)
}

// someId: mostly one that is there.
func someId(r *rand.Rand, m *model) int {
	if len(m.held) > 0 && r.Intn(5) > 0 {
		return m.held[r.Intn(len(m.held))].id
	}
	return m.next - r.Intn(6) + 1
}

// step does one call, any one, in the store and in the model.
func step(t *testing.T, r *rand.Rand, s *store.Store, m *model) {
	t.Helper()
	switch r.Intn(9) {
	case 0, 1:
		size := r.Intn(1<<r.Intn(12)+4) - 1
		id, code := m.create(size)
		wantCreate(t, s, size, id, code)
	case 2:
		id := someId(r, m)
		wantDestroy(t, s, id, m.destroy(id))
	case 3:
		if r.Intn(4) == 0 {
			n := m.next + r.Intn(12) - 6
			wantSetNext(t, s, n, m.setNext(n))
		}
	case 4, 5:
		id, off, n := someId(r, m), r.Intn(1<<r.Intn(12)+3)-2, r.Intn(1<<r.Intn(12)+3)-2
		want, code := m.read(id, off, n)
		wantRead(t, s, id, off, n, want, code)
	default:
		id, off := someId(r, m), r.Intn(1<<r.Intn(12)+3)-2
		data := make([]byte, r.Intn(1<<r.Intn(12)))
		r.Read(data)
		wantWrite(t, s, id, off, data, m.write(id, off, data))
	}
}

// TestRandomSteps holds calls in any order against the model.
func TestRandomSteps(t *testing.T) { // P7.2 to P7.6
	r := rand.New(rand.NewSource(7))
	for range 150 {
		objects, pages := 1+r.Intn(8), 1+r.Intn(100)
		s, m := mustNew(t, objects, pages), newModel(objects, pages)
		for range 120 {
			step(t, r, s, m)
			wantHeld(t, s, m)
		}
	}
}
