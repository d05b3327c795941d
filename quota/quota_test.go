package quota_test

import (
	"math"
	"math/rand"
	"slices"
	"testing"

	"sesame/api"
	"sesame/quota"
)

// model: what a quota should hold: a plain list, an object's number once for each token that is counted for it.
type model struct {
	each, all int
	list      []int
}

func (m *model) of(obj int) int {
	many := 0
	for _, o := range m.list {
		if o == obj {
			many++
		}
	}
	return many
}

func (m *model) may(obj int) api.Errno {
	switch {
	case m.of(obj) == m.each:
		return api.ErrQuota
	case len(m.list) == m.all:
		return api.ErrEntry
	}
	return api.OK
}

func (m *model) add(obj int) api.Errno {
	if code := m.may(obj); code != api.OK {
		return code
	}
	m.list = append(m.list, obj)
	return api.OK
}

func (m *model) sub(obj, n int) api.Errno {
	if n < 0 || m.of(obj) < n {
		return api.ErrNone
	}
	for range n {
		at := slices.Index(m.list, obj)
		m.list = slices.Delete(m.list, at, at+1)
	}
	return api.OK
}

func (m *model) objects() []int {
	out := slices.Clone(m.list)
	slices.Sort(out)
	return slices.Compact(out)
}

func made(t *testing.T, each, all int) *quota.Quota {
	t.Helper()
	q, code := quota.New(each, all)
	if q == nil || code != api.OK {
		t.Fatalf("P12.1: New(%d, %d): %v, %d", each, all, q, code)
	}
	return q
}

func answer(t *testing.T, what string, got, want api.Errno) {
	t.Helper()
	if got != want {
		t.Errorf("%s: %d, want %d", what, got, want)
	}
}

// same: whether a quota tells what the model holds, of these objects and of those that it names itself.
func same(t *testing.T, what string, q *quota.Quota, m *model, asked []int) {
	t.Helper()
	told := q.Objects()
	if !slices.Equal(told, m.objects()) {
		t.Fatalf("P12.4: %s: Objects: %v, want %v", what, told, m.objects())
	}
	if q.All() != len(m.list) || q.All() > m.all {
		t.Fatalf("P12.4: %s: All: %d, want %d, at most %d", what, q.All(), len(m.list), m.all)
	}
	sum := 0
	for _, obj := range told {
		sum += q.Of(obj)
	}
	if sum != q.All() {
		t.Fatalf("P12.5: %s: the sum of Of over Objects: %d, All %d", what, sum, q.All())
	}
	for _, obj := range asked {
		if q.Of(obj) != m.of(obj) || q.Of(obj) > m.each {
			t.Fatalf("P12.4: %s: Of(%d): %d, want %d, at most %d", what, obj, q.Of(obj), m.of(obj), m.each)
		}
		if got, want := q.May(obj), m.may(obj); got != want {
			t.Fatalf("P12.2: %s: May(%d): %d, want %d", what, obj, got, want)
		}
	}
	if !slices.Equal(q.Objects(), m.objects()) || q.All() != len(m.list) {
		t.Fatalf("P12.5: %s: asking has changed it", what)
	}
}

// step: one Add (n is adding) or Sub on both.
type step struct{ obj, n int }

const adding = math.MinInt + 1

func (s step) do(t *testing.T, q *quota.Quota, m *model) {
	t.Helper()
	if s.n == adding {
		if got, want := q.Add(s.obj), m.add(s.obj); got != want {
			t.Fatalf("P12.2: Add(%d): %d, want %d", s.obj, got, want)
		}
		return
	}
	if got, want := q.Sub(s.obj, s.n), m.sub(s.obj, s.n); got != want {
		t.Fatalf("P12.3: Sub(%d, %d): %d, want %d", s.obj, s.n, got, want)
	}
}

// P12.1
func TestNewBounds(t *testing.T) {
	sizes := []int{math.MinInt, -256, -1, 0, 1, 2, 64, 255, 256, 257, 512, 1 << 32, math.MaxInt}
	for _, each := range sizes {
		for _, all := range sizes {
			q, code := quota.New(each, all)
			if each < 1 || each > api.MaxQuota || all < 1 || all > api.MaxEntries {
				if q != nil || code != api.ErrConfig {
					t.Errorf("P12.1: New(%d, %d): %v, %d", each, all, q, code)
				}
				continue
			}
			if q == nil || code != api.OK {
				t.Fatalf("P12.1: New(%d, %d): %v, %d", each, all, q, code)
			}
			same(t, "a new one", q, &model{each: each, all: all}, []int{0, 1, -1, math.MinInt, math.MaxInt})
		}
	}
}

// P12.1 to P12.4: the chapter's examples.
func TestExamples(t *testing.T) {
	q := made(t, 2, 3)
	answer(t, "P12.2: Add(7)", q.Add(7), api.OK)
	answer(t, "P12.2: Add(7)", q.Add(7), api.OK)
	answer(t, "P12.2: Add(7), a third", q.Add(7), api.ErrQuota)
	answer(t, "P12.2: Add(-1)", q.Add(-1), api.OK)
	answer(t, "P12.2: Add(8), a fourth in all", q.Add(8), api.ErrEntry)
	answer(t, "P12.2: Add(-1), a fourth in all", q.Add(-1), api.ErrEntry)
	answer(t, "P12.2: Add(7), both apply", q.Add(7), api.ErrQuota)
	same(t, "full", q, &model{2, 3, []int{7, 7, -1}}, []int{7, 8, -1})
	answer(t, "P12.3: Sub(7, 3)", q.Sub(7, 3), api.ErrNone)
	answer(t, "P12.3: Sub(7, -1)", q.Sub(7, -1), api.ErrNone)
	answer(t, "P12.3: Sub(8, 1)", q.Sub(8, 1), api.ErrNone)
	answer(t, "P12.3: Sub(8, 0)", q.Sub(8, 0), api.OK)
	same(t, "still full", q, &model{2, 3, []int{7, 7, -1}}, []int{7, 8, -1})
	answer(t, "P12.3: Sub(7, 2)", q.Sub(7, 2), api.OK)
	same(t, "less", q, &model{2, 3, []int{-1}}, []int{7, 8, -1})
}

// pasts: all rows of steps of that length, each on a quota of its own.
func pasts(t *testing.T, each, all, length int, steps []step, asked []int) {
	t.Helper()
	places := make([]int, length)
	for {
		q, m := made(t, each, all), &model{each: each, all: all}
		for _, p := range places {
			steps[p].do(t, q, m)
			same(t, "a small past", q, m, asked)
		}
		at := 0
		for at < length && places[at] == len(steps)-1 {
			places[at] = 0
			at++
		}
		if at == length {
			return
		}
		places[at]++
	}
}

// P12.2 to P12.5: every short past, at small bounds, each above, at and below all.
func TestEveryShortPast(t *testing.T) {
	steps := []step{{0, adding}, {1, adding}, {-5, adding}, {0, 1}, {0, 2}, {1, 1}, {1, 0}, {-5, -1}}
	for _, b := range [][2]int{{1, 1}, {1, 2}, {2, 1}, {2, 2}, {2, 3}, {3, 2}} {
		pasts(t, b[0], b[1], 5, steps, []int{0, 1, -5, 6})
	}
}

// P12.2 to P12.5: long pasts by chance, with objects at the ints' ends and counts far beside the bounds.
func TestLongPasts(t *testing.T) {
	chance := rand.New(rand.NewSource(12))
	objects := []int{math.MinInt, math.MinInt + 1, -1 << 32, -2, -1, 0, 1, 2, 63, 64, 1 << 32, api.MaxId, math.MaxInt - 1, math.MaxInt}
	odd := []int{math.MinInt, -1 << 32, -1, 257, 1 << 32, math.MaxInt}
	for range 40 {
		each, all := 1+chance.Intn(12), 1+chance.Intn(60)
		q, m := made(t, each, all), &model{each: each, all: all}
		for range 400 {
			s := step{objects[chance.Intn(len(objects))], adding}
			switch kind := chance.Intn(20); {
			case kind < 6:
				s.n = chance.Intn(4)
			case kind < 8:
				s.n = m.of(s.obj) + chance.Intn(2)
			case kind < 9:
				s.n = odd[chance.Intn(len(odd))]
			}
			s.do(t, q, m)
			same(t, "a long past", q, m, objects)
		}
	}
}

// P12.2, P12.3: the greatest bounds, one object alone and as many as there can be.
func TestGreatest(t *testing.T) {
	q := made(t, api.MaxQuota, api.MaxEntries)
	for range 256 {
		answer(t, "P12.2: Add(5)", q.Add(5), api.OK)
	}
	answer(t, "P12.2: the 257th of one object", q.Add(5), api.ErrQuota)
	answer(t, "P12.2: the 257th in all", q.Add(6), api.ErrEntry)
	answer(t, "P12.3: more than there are", q.Sub(5, 257), api.ErrNone)
	if q.Of(5) != 256 || q.All() != 256 || !slices.Equal(q.Objects(), []int{5}) {
		t.Errorf("P12.4: %d, %d, %v", q.Of(5), q.All(), q.Objects())
	}
	answer(t, "P12.3: all but one", q.Sub(5, 255), api.OK)
	answer(t, "P12.3: the last", q.Sub(5, 1), api.OK)
	answer(t, "P12.3: nothing less", q.Sub(5, 0), api.OK)
	if q.All() != 0 || len(q.Objects()) != 0 {
		t.Errorf("P12.4: %d, %v", q.All(), q.Objects())
	}
	m := &model{each: api.MaxQuota, all: api.MaxEntries}
	for i := range 256 {
		step{(i*97%256 - 128) * (math.MaxInt / 200), adding}.do(t, q, m)
	}
	answer(t, "P12.2: the 257th object", q.Add(1), api.ErrEntry)
	same(t, "256 objects", q, m, m.list)
}

// P12.3: a Sub of nothing is OK for every object, and leaves none that has nothing in Objects.
func TestSubOfNothing(t *testing.T) {
	q := made(t, 1, 1)
	for _, obj := range []int{math.MinInt, -1, 0, 1, math.MaxInt} {
		answer(t, "P12.3: Sub of nothing", q.Sub(obj, 0), api.OK)
		answer(t, "P12.3: Sub of the least int", q.Sub(obj, math.MinInt), api.ErrNone)
		answer(t, "P12.3: Sub of the greatest int", q.Sub(obj, math.MaxInt), api.ErrNone)
		q.Of(obj)
		answer(t, "P12.2: May", q.May(obj), api.OK)
	}
	same(t, "nothing counted", q, &model{each: 1, all: 1}, []int{0})
}

// P12.5: what is counted less may be counted again, as often as one likes.
func TestAgainAndAgain(t *testing.T) {
	q := made(t, 2, 2)
	for i := range 3000 {
		answer(t, "P12.2: Add", q.Add(i), api.OK)
		answer(t, "P12.2: Add, again", q.Add(i), api.OK)
		answer(t, "P12.2: Add of another", q.Add(-1), api.ErrEntry)
		if q.Of(i-1) != 0 || !slices.Equal(q.Objects(), []int{i}) {
			t.Fatalf("P12.4: %d, %v", q.Of(i-1), q.Objects())
		}
		answer(t, "P12.3: Sub", q.Sub(i, 2), api.OK)
	}
}

// P12.4: Objects rises, however often it is asked.
func TestObjectsRise(t *testing.T) {
	q := made(t, 1, 256)
	var want []int
	for i := range 200 {
		q.Add(i * 37 % 199 * (1 - i%2*2))
	}
	for obj := -300; obj <= 300; obj++ {
		if q.Of(obj) > 0 {
			want = append(want, obj)
		}
	}
	for range 50 {
		if got := q.Objects(); !slices.Equal(got, want) {
			t.Fatalf("P12.4: Objects: %v, want %v", got, want)
		}
	}
}

// P12.6: what is told is new memory, its spare room too.
func TestAnswersAreNew(t *testing.T) {
	q, m := made(t, 3, 9), &model{each: 3, all: 9}
	for _, obj := range []int{4, 2, 4, 9, -3} {
		step{obj, adding}.do(t, q, m)
	}
	first, second := q.Objects(), q.Objects()
	for i := range first[:cap(first)] {
		first[:cap(first)][i] = 77
	}
	if !slices.Equal(second, []int{-3, 2, 4, 9}) {
		t.Errorf("P12.6: two answers share memory: %v", second)
	}
	same(t, "an answer was written over", q, m, []int{4, 2, 9, -3, 77})
	step{5, adding}.do(t, q, m)
	step{4, 2}.do(t, q, m)
	if !slices.Equal(second, []int{-3, 2, 4, 9}) {
		t.Errorf("P12.6: an old answer has changed: %v", second)
	}
	same(t, "and went on", q, m, []int{4, 5, 77})
}

// P12.6: two quotas have nothing in common.
func TestTwo(t *testing.T) {
	a, b := made(t, 2, 3), made(t, 1, 2)
	ma, mb := &model{each: 2, all: 3}, &model{each: 1, all: 2}
	chance := rand.New(rand.NewSource(6))
	for range 500 {
		s := step{chance.Intn(3), adding}
		if chance.Intn(3) == 0 {
			s.n = chance.Intn(3)
		}
		if chance.Intn(2) == 0 {
			s.do(t, a, ma)
		} else {
			s.do(t, b, mb)
		}
		same(t, "one of two", a, ma, []int{0, 1, 2})
		same(t, "the other", b, mb, []int{0, 1, 2})
	}
}
