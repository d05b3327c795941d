package procs_test

import (
	"maps"
	"math"
	"math/rand"
	"slices"
	"testing"

	"sesame/api"
	"sesame/procs"
)

// model: what it should hold: a plain set of those that are live.
type model struct {
	most, next int
	live       map[int]bool
}

func newModel(most int) *model { return &model{most, 1, map[int]bool{0: true}} }

func (m *model) is(n int) bool { return m.live[n] }

func (m *model) spawn() (int, api.Errno) {
	if len(m.live) == m.most || m.next == api.MaxNumber+1 {
		return 0, api.ErrProcs
	}
	m.live[m.next] = true
	m.next++
	return m.next - 1, api.OK
}

func (m *model) exit(n int) api.Errno {
	if !m.is(n) {
		return api.ErrNone
	}
	delete(m.live, n)
	return api.OK
}

func (m *model) setNext(n int) api.Errno {
	if n < 0 || n > api.MaxNumber+1 {
		return api.ErrRange
	}
	for _, at := range m.numbers() {
		if at >= n {
			return api.ErrRange
		}
	}
	m.next = n
	return api.OK
}

func (m *model) numbers() []int { return slices.Sorted(maps.Keys(m.live)) }

func made(t *testing.T, most int) *procs.Procs {
	t.Helper()
	p, code := procs.New(most)
	if p == nil || code != api.OK {
		t.Fatalf("P16.1: New(%d): %v, %d", most, p, code)
	}
	return p
}

func answer(t *testing.T, what string, got, want api.Errno) {
	t.Helper()
	if got != want {
		t.Errorf("%s: %d, want %d", what, got, want)
	}
}

func spawns(t *testing.T, p *procs.Procs, want int, code api.Errno) {
	t.Helper()
	if n, got := p.Spawn(); n != want || got != code {
		t.Errorf("P16.2: Spawn: %d, %d, want %d, %d", n, got, want, code)
	}
}

func holds(t *testing.T, p *procs.Procs, next int, live ...int) {
	t.Helper()
	if !slices.Equal(p.Numbers(), live) || p.Next() != next {
		t.Errorf("P16.4: %v, next %d, want %v, next %d", p.Numbers(), p.Next(), live, next)
	}
}

// odd: numbers far beside those that can be live.
func odd() []int {
	return []int{math.MinInt, math.MinInt + 1, -1 << 32, -65536, -2, -1, 65536, 65537, 65538, 1 << 17, 1 << 32, math.MaxInt - 1, math.MaxInt}
}

// same: whether it tells what the model holds, of all live ones, their neighbours, the next one's, and numbers far beside.
func same(t *testing.T, what string, p *procs.Procs, m *model) {
	t.Helper()
	told, want := p.Numbers(), m.numbers()
	if !slices.Equal(told, want) {
		t.Fatalf("P16.4: %s: Numbers: %v, want %v", what, told, want)
	}
	if p.Next() != m.next {
		t.Fatalf("P16.4: %s: Next: %d, want %d", what, p.Next(), m.next)
	}
	for _, at := range append(append(odd(), want...), m.next) {
		for n := at - 1; n <= at+1 && n != math.MinInt; n++ {
			if p.Live(n) != m.is(n) {
				t.Fatalf("P16.4: %s: Live(%d): %v, live are %v", what, n, p.Live(n), want)
			}
			if n == math.MaxInt {
				break
			}
		}
	}
	if p.Live(math.MinInt) {
		t.Fatalf("P16.4: %s: Live of the least int", what)
	}
	if !slices.Equal(p.Numbers(), want) || p.Next() != m.next {
		t.Fatalf("P16.4: %s: asking has changed it", what)
	}
}

// step: one call on both.
type step struct{ kind, n int }

const (
	spawn = iota
	exit
	setNext
)

func (s step) do(t *testing.T, p *procs.Procs, m *model) {
	t.Helper()
	switch s.kind {
	case spawn:
		n, code := p.Spawn()
		if want, wantCode := m.spawn(); n != want || code != wantCode {
			t.Fatalf("P16.2: Spawn: %d, %d, want %d, %d", n, code, want, wantCode)
		}
	case exit:
		if got, want := p.Exit(s.n), m.exit(s.n); got != want {
			t.Fatalf("P16.3: Exit(%d): %d, want %d", s.n, got, want)
		}
	case setNext:
		if got, want := p.SetNext(s.n), m.setNext(s.n); got != want {
			t.Fatalf("P16.5: SetNext(%d): %d, want %d", s.n, got, want)
		}
	}
}

// P16.1
func TestNewBounds(t *testing.T) {
	for most := 1; most <= api.MaxProcs; most++ {
		same(t, "a new one", made(t, most), newModel(most))
	}
	for _, most := range append(odd(), 0, 33, 34, 64, 255, 256) {
		if p, code := procs.New(most); p != nil || code != api.ErrConfig {
			t.Errorf("P16.1: New(%d): %v, %d", most, p, code)
		}
	}
}

// P16.1 to P16.5: the chapter's examples.
func TestExamples(t *testing.T) {
	for _, most := range []int{0, 33} {
		if p, code := procs.New(most); p != nil || code != api.ErrConfig {
			t.Errorf("P16.1: New(%d): %v, %d", most, p, code)
		}
	}
	p := made(t, 2)
	holds(t, p, 1, 0)
	spawns(t, p, 1, api.OK)
	spawns(t, p, 0, api.ErrProcs)
	answer(t, "P16.3: Exit(0)", p.Exit(0), api.OK)
	answer(t, "P16.3: Exit(0) again", p.Exit(0), api.ErrNone)
	spawns(t, p, 2, api.OK)
	holds(t, p, 3, 1, 2)
	for _, n := range []int{2, -1, 65537} {
		answer(t, "P16.5: SetNext", p.SetNext(n), api.ErrRange)
		holds(t, p, 3, 1, 2)
	}
	answer(t, "P16.5: SetNext(65536)", p.SetNext(65536), api.OK)
	answer(t, "P16.3: Exit(1)", p.Exit(1), api.OK)
	spawns(t, p, 0, api.ErrProcs)
	holds(t, p, 65536, 2)
	answer(t, "P16.5: SetNext(65535)", p.SetNext(65535), api.OK)
	spawns(t, p, 65535, api.OK)
	spawns(t, p, 0, api.ErrProcs)
	holds(t, p, 65536, 2, 65535)
	p = made(t, 1)
	spawns(t, p, 0, api.ErrProcs)
	answer(t, "P16.3: Exit(0)", p.Exit(0), api.OK)
	answer(t, "P16.5: SetNext(0)", p.SetNext(0), api.OK)
	spawns(t, p, 0, api.OK)
	holds(t, p, 1, 0)
}

// pasts: all rows of steps of that length, each on one of its own.
func pasts(t *testing.T, most, length int, steps []step) {
	t.Helper()
	places := make([]int, length)
	for {
		p, m := made(t, most), newModel(most)
		for _, at := range places {
			steps[at].do(t, p, m)
		}
		same(t, "a small past", p, m)
		at := 0
		for at < length && places[at] == len(steps)-1 {
			places[at] = 0
			at++
		}
		if at == length {
			return
		}
		places[at]++
	}
}

// P16.2 to P16.5: every short past, at small bounds.
func TestEveryShortPast(t *testing.T) {
	steps := []step{{spawn, 0}, {exit, 0}, {exit, 1}, {exit, 2}, {setNext, 0}, {setNext, 2}, {setNext, 65535}, {setNext, 65536}}
	for length := range 6 {
		for most := 1; most <= 3; most++ {
			pasts(t, most, length, steps)
		}
	}
}

// anyStep: one by chance: among the live ones, beside them, at the bounds' ends, and far beside.
func anyStep(chance *rand.Rand, m *model) step {
	near := append(m.numbers(), m.next, 0, api.MaxNumber, api.MaxNumber+1)
	n := near[chance.Intn(len(near))]
	switch kind := chance.Intn(20); {
	case kind < 8:
		return step{spawn, 0}
	case kind < 14:
		return step{exit, n}
	case kind < 15:
		return step{exit, n + 1 - chance.Intn(3)}
	case kind < 16:
		return step{exit, odd()[chance.Intn(len(odd()))]}
	case kind < 17:
		return step{setNext, odd()[chance.Intn(len(odd()))]}
	case kind < 18:
		return step{setNext, n + 1 - chance.Intn(3)}
	case kind < 19:
		return step{setNext, api.MaxNumber - chance.Intn(40)}
	}
	return step{setNext, chance.Intn(200)}
}

// P16.2 to P16.5: long pasts by chance, at every bound.
func TestLongPasts(t *testing.T) {
	chance := rand.New(rand.NewSource(16))
	for most := 1; most <= api.MaxProcs; most++ {
		p, m := made(t, most), newModel(most)
		for range 400 {
			anyStep(chance, m).do(t, p, m)
			same(t, "a long past", p, m)
		}
	}
}

// P16.2: as many as there may be, and one more when one is gone, whichever it is.
func TestFull(t *testing.T) {
	for most := 1; most <= api.MaxProcs; most++ {
		for gone := range most {
			p, m := made(t, most), newModel(most)
			for range most + 1 {
				step{spawn, 0}.do(t, p, m)
			}
			same(t, "full", p, m)
			step{exit, gone}.do(t, p, m)
			same(t, "one gone", p, m)
			spawns(t, p, most, api.OK)
			spawns(t, p, 0, api.ErrProcs)
			if p.Live(gone) || p.Next() != most+1 {
				t.Errorf("P16.7: %d is live again, or next is %d", gone, p.Next())
			}
		}
	}
}

// P16.2: where both are so, no room and no number, and where one alone is.
func TestNoNumberMore(t *testing.T) {
	p := made(t, 2)
	answer(t, "P16.5: SetNext(65535)", p.SetNext(65535), api.OK)
	spawns(t, p, 65535, api.OK)
	holds(t, p, 65536, 0, 65535)
	spawns(t, p, 0, api.ErrProcs)
	answer(t, "P16.3: Exit(0)", p.Exit(0), api.OK)
	spawns(t, p, 0, api.ErrProcs)
	answer(t, "P16.5: SetNext(65535), which is live", p.SetNext(65535), api.ErrRange)
	answer(t, "P16.5: SetNext(65536), as it is", p.SetNext(65536), api.OK)
	answer(t, "P16.3: Exit(65536)", p.Exit(65536), api.ErrNone)
	holds(t, p, 65536, 65535)
	answer(t, "P16.3: Exit(65535)", p.Exit(65535), api.OK)
	spawns(t, p, 0, api.ErrProcs)
	holds(t, p, 65536)
	answer(t, "P16.5: SetNext(0)", p.SetNext(0), api.OK)
	spawns(t, p, 0, api.OK)
	spawns(t, p, 1, api.OK)
	holds(t, p, 2, 0, 1)
}

// P16.3: a number that is next, was live, or never can be is not live; and a refusal leaves all as it was.
func TestExitOfNone(t *testing.T) {
	p := made(t, 4)
	spawns(t, p, 1, api.OK)
	spawns(t, p, 2, api.OK)
	answer(t, "P16.3: Exit(1)", p.Exit(1), api.OK)
	for _, n := range append(odd(), 1, 3, 4, 65535) {
		answer(t, "P16.3: Exit of none", p.Exit(n), api.ErrNone)
		holds(t, p, 3, 0, 2)
		if p.Live(n) {
			t.Errorf("P16.4: Live(%d)", n)
		}
	}
	answer(t, "P16.3: Exit(2)", p.Exit(2), api.OK)
	answer(t, "P16.3: Exit(0)", p.Exit(0), api.OK)
	holds(t, p, 3)
	spawns(t, p, 3, api.OK)
}

// P16.5: at each number around the live ones; what was live once does not count.
func TestSetNextEdges(t *testing.T) {
	for top := range 6 {
		p := made(t, 6)
		for range top {
			p.Spawn()
		}
		for n := -3; n <= 8; n++ {
			want := api.OK
			if n <= top {
				want = api.ErrRange
			}
			next := p.Next()
			answer(t, "P16.5: SetNext", p.SetNext(n), want)
			if want == api.OK {
				next = n
			}
			if p.Next() != next {
				t.Errorf("P16.5: %d live, SetNext(%d): next %d, want %d", top+1, n, p.Next(), next)
			}
		}
	}
	p := made(t, 6)
	for range 4 {
		p.Spawn()
	}
	p.Exit(4)
	p.Exit(3)
	p.Exit(0)
	answer(t, "P16.5: SetNext(2), which is live", p.SetNext(2), api.ErrRange)
	answer(t, "P16.5: SetNext(3), below what it was", p.SetNext(3), api.OK)
	holds(t, p, 3, 1, 2)
	p.Exit(2)
	p.Exit(1)
	answer(t, "P16.5: SetNext(-1), none live", p.SetNext(-1), api.ErrRange)
	answer(t, "P16.5: SetNext(0), none live", p.SetNext(0), api.OK)
	answer(t, "P16.5: SetNext(65535)", p.SetNext(65535), api.OK)
	answer(t, "P16.5: SetNext(65536)", p.SetNext(65536), api.OK)
	answer(t, "P16.5: SetNext(65537)", p.SetNext(65537), api.ErrRange)
	holds(t, p, 65536)
}

// P16.6: what is told is new memory, its spare room too.
func TestAnswersAreNew(t *testing.T) {
	p, m := made(t, 8), newModel(8)
	for _, s := range []step{{spawn, 0}, {spawn, 0}, {exit, 1}, {spawn, 0}, {spawn, 0}} {
		s.do(t, p, m)
	}
	first, second := p.Numbers(), p.Numbers()
	for i := range first[:cap(first)] {
		first[:cap(first)][i] = 77
	}
	if !slices.Equal(second, []int{0, 2, 3, 4}) {
		t.Errorf("P16.6: two answers share memory: %v", second)
	}
	same(t, "an answer was written over", p, m)
	for _, s := range []step{{exit, 0}, {spawn, 0}, {spawn, 0}, {exit, 3}} {
		s.do(t, p, m)
		same(t, "and went on", p, m)
	}
	if !slices.Equal(second, []int{0, 2, 3, 4}) {
		t.Errorf("P16.6: an old answer has changed: %v", second)
	}
	_ = append(p.Numbers(), 78, 79)
	step{spawn, 0}.do(t, p, m)
	same(t, "an answer was added to", p, m)
}

// P16.7: without SetNext none is live twice, and each is above all that ever were, up to the last number there is.
func TestNoneTwice(t *testing.T) {
	p := made(t, 3)
	top := 0
	for top < api.MaxNumber {
		n, code := p.Spawn()
		if code != api.OK || n != top+1 || !p.Live(n) {
			t.Fatalf("P16.7: Spawn: %d, %d behind %d", n, code, top)
		}
		top = n
		if n > 1 {
			answer(t, "P16.3: Exit of the one but last", p.Exit(n-1), api.OK)
		}
		if n%5 == 0 && n < api.MaxNumber {
			spawns(t, p, n+1, api.OK)
			spawns(t, p, 0, api.ErrProcs)
			answer(t, "P16.3: Exit", p.Exit(n), api.OK)
			top = n + 1
		}
	}
	spawns(t, p, 0, api.ErrProcs)
	holds(t, p, 65536, 0, 65535)
}

// lay makes these rising numbers live, as P16.7 says.
func lay(t *testing.T, most int, numbers []int) {
	t.Helper()
	p := made(t, most)
	answer(t, "P16.3: Exit(0)", p.Exit(0), api.OK)
	for _, n := range numbers {
		answer(t, "P16.7: SetNext", p.SetNext(n), api.OK)
		spawns(t, p, n, api.OK)
	}
	if !slices.Equal(p.Numbers(), numbers) {
		t.Fatalf("P16.7: live: %v, want %v", p.Numbers(), numbers)
	}
}

// P16.7: any rising numbers, at most as many as may be, can be made live: all of the least and greatest, and others by chance.
func TestAnyNumbers(t *testing.T) {
	near := []int{0, 1, 2, 3, 5, 65533, 65534, 65535}
	for set := range 1 << len(near) {
		var numbers []int
		for i, n := range near {
			if set>>i&1 == 1 {
				numbers = append(numbers, n)
			}
		}
		lay(t, max(1, len(numbers)), numbers)
		lay(t, api.MaxProcs, numbers)
	}
	chance := rand.New(rand.NewSource(7))
	for range 500 {
		most := 1 + chance.Intn(api.MaxProcs)
		numbers := make([]int, most)
		for i := range numbers {
			numbers[i] = chance.Intn(api.MaxNumber + 1)
		}
		slices.Sort(numbers)
		lay(t, most, slices.Compact(numbers))
	}
}

// P16.6: two have nothing in common.
func TestTwo(t *testing.T) {
	a, b := made(t, 5), made(t, 3)
	ma, mb := newModel(5), newModel(3)
	chance := rand.New(rand.NewSource(2))
	for range 500 {
		if chance.Intn(2) == 0 {
			anyStep(chance, ma).do(t, a, ma)
		} else {
			anyStep(chance, mb).do(t, b, mb)
		}
		same(t, "one of two", a, ma)
		same(t, "the other", b, mb)
	}
}
