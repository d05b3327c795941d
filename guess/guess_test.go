package guess_test

import (
	"math"
	"math/big"
	"slices"
	"testing"

	"sesame/api"
	"sesame/guess"
)

func of(obj int, word uint64) api.Cap { return api.Cap{Obj: obj, Pass: api.Word{Lo: word}} }

// words gives the words of small numbers.
func words(numbers ...uint64) []api.Word {
	out := make([]api.Word, 0, len(numbers))
	for _, n := range numbers {
		out = append(out, api.Word{Lo: n})
	}
	return out
}

// small: the Config of the chapter's examples.
func small() api.Config {
	return api.Config{Width: 2, Objects: 2, Pages: 2, Entries: 4, Quota: 4, Procs: 2, List: 4, Ways: 1}
}

// roomy: one in which little is refused.
func roomy() api.Config {
	return api.Config{Width: 8, Objects: 8, Pages: 64, Entries: 64, Quota: 16, Procs: 8, List: 8, Sets: 2, Ways: 2, Knob: 64}
}

func create(size int) api.Call         { return api.Call{Op: api.OpCreate, Size: size} }
func destroy(x api.Cap) api.Call       { return api.Call{Op: api.OpDestroy, Cap: x} }
func derive(x api.Cap, r int) api.Call { return api.Call{Op: api.OpDerive, Cap: x, Rights: r} }
func revoke(x api.Cap) api.Call        { return api.Call{Op: api.OpRevoke, Cap: x} }
func add(x api.Cap) api.Call           { return api.Call{Op: api.OpAdd, Cap: x} }
func remove(index int) api.Call        { return api.Call{Op: api.OpRemove, Index: index} }
func spawn(gifts ...int) api.Call      { return api.Call{Op: api.OpSpawn, Gifts: gifts} }
func exit() api.Call                   { return api.Call{Op: api.OpExit} }

func read(x api.Cap, off, n int) api.Call {
	return api.Call{Op: api.OpRead, Given: true, Cap: x, Off: off, N: n}
}

func readNamed(obj, off, n int) api.Call {
	return api.Call{Op: api.OpRead, Cap: of(obj, 0), Off: off, N: n}
}

func write(x api.Cap, off int, data []byte) api.Call {
	return api.Call{Op: api.OpWrite, Given: true, Cap: x, Off: off, Data: data}
}

func writeNamed(obj, off int, data []byte) api.Call {
	return api.Call{Op: api.OpWrite, Cap: of(obj, 0), Off: off, Data: data}
}

func by(number int, c api.Call) api.Call {
	c.By = number
	return c
}

// in holds In against what is written out, and against the history.
func in(t *testing.T, what string, c api.Config, draws []api.Word, calls []api.Call, want bool) {
	t.Helper()
	if got := holdsIn(t, c, draws, calls); got != want {
		t.Errorf("P26.2: %s: %v", what, got)
	}
}

// count holds Count against what is written out, and against the histories.
func count(t *testing.T, what string, c api.Config, calls []api.Call, n, all, some int) {
	t.Helper()
	lists, got, code := guess.Count(c, calls, n)
	if lists != all || got != some || code != api.OK {
		t.Errorf("P26.3: %s: %d, %d, %d, want %d, %d", what, lists, got, code, all, some)
	}
	holdsCount(t, c, calls, n)
}

// P26.1 to P26.4: the chapter's examples.
func TestExamples(t *testing.T) {
	own := []api.Call{create(0), read(of(1, 3), 0, 0)}
	if q := guess.Passwords(own); q != 1 {
		t.Errorf("P26.1: %d", q)
	}
	count(t, "example 1", small(), own, 1, 4, 0)

	other := []api.Call{spawn(), create(0), by(1, read(of(1, 3), 0, 0))}
	for word := range uint64(16) {
		in(t, "example 2", small(), words(word), other, word%4 == 3)
	}
	count(t, "example 2", small(), other, 1, 4, 1)
	count(t, "example 2", small(), other, 2, 16, 4)

	named := []api.Call{spawn(), create(0), by(1, add(of(1, 3))), by(1, readNamed(1, 0, 0))}
	if q := guess.Passwords(named); q != 1 {
		t.Errorf("P26.1: %d", q)
	}
	count(t, "example 3", small(), named, 1, 4, 1)
	count(t, "example 4", small(), own, 0, 1, 0)

	for _, l := range [][4]int{{1, 1, 2, 1}, {1, 2, 2, 8}, {3, 0, 2, 0}} {
		if got, code := guess.Bound(l[0], l[1], l[2]); got != l[3] || code != api.OK {
			t.Errorf("P26.4: Bound(%d, %d, %d): %d, %d", l[0], l[1], l[2], got, code)
		}
	}

	shown := []api.Call{create(64), add(of(1, 1)), spawn(0), write(of(1, 1), 0, laid(of(1, 3))), by(1, readNamed(1, 0, 24)), derive(of(1, 1), 1), by(1, read(of(1, 3), 0, 0))}
	in(t, "example 5", small(), words(1, 3), shown, false)
	in(t, "example 5, without the read", small(), words(1, 3), slices.Delete(slices.Clone(shown), 4, 5), true)
}

// P26.1: which calls bring a password: by Op and Given alone, whatever else stands in them.
func TestPasswords(t *testing.T) {
	if q := guess.Passwords(nil); q != 0 {
		t.Errorf("P26.1: of no call %d", q)
	}
	var all []api.Call
	want := 0
	for op := -2; op <= 14; op++ {
		for _, given := range []bool{false, true} {
			for _, c := range []api.Call{{}, {By: -1, Size: 7}, {Cap: of(1, 3)}, {Cap: of(-9, 3), Rights: 99}, {Off: math.MinInt, N: math.MaxInt}, {Data: make([]byte, 2000), Gifts: []int{-1}}} {
				c.Op, c.Given = op, given
				q := 0
				if op == 2 || op == 3 || op == 4 || op == 7 || given && (op == 5 || op == 6) {
					q = 1
				}
				if got := guess.Passwords([]api.Call{c}); got != q {
					t.Errorf("P26.1: %+v: %d", c, got)
				}
				all, want = append(all, c), want+q
			}
		}
	}
	if got := guess.Passwords(all); got != want {
		t.Errorf("P26.1: of all: %d, want %d", got, want)
	}
	if got := guess.Passwords(slices.Repeat([]api.Call{add(of(1, 3))}, 5000)); got != 5000 {
		t.Errorf("P26.1: of 5000 adds of one capability: %d", got)
	}
}

// wrongConfigs gives configurations that may not be: each number, just below and just above its bounds.
func wrongConfigs() []api.Config {
	var out []api.Config
	put := func(least, most int, place func(c *api.Config) *int) {
		for _, n := range []int{least - 1, most + 1, math.MinInt, math.MaxInt} {
			c := roomy()
			*place(&c) = n
			out = append(out, c)
		}
	}
	put(1, 128, func(c *api.Config) *int { return &c.Width })
	put(1, 64, func(c *api.Config) *int { return &c.Objects })
	put(1, 256, func(c *api.Config) *int { return &c.Pages })
	put(1, 256, func(c *api.Config) *int { return &c.Entries })
	put(1, 256, func(c *api.Config) *int { return &c.Quota })
	put(1, 32, func(c *api.Config) *int { return &c.Procs })
	put(1, 32, func(c *api.Config) *int { return &c.List })
	put(0, 16, func(c *api.Config) *int { return &c.Sets })
	put(1, 4, func(c *api.Config) *int { return &c.Ways })
	put(0, 64, func(c *api.Config) *int { return &c.Knob })
	return append(out, api.Config{})
}

// P26.2, P26.3: a Config that may not be is refused ahead of all else, and nothing is told beside.
func TestWrongConfig(t *testing.T) {
	guessed := []api.Call{spawn(), create(0), by(1, read(of(1, 3), 0, 0))}
	for _, c := range wrongConfigs() {
		for _, draws := range [][]api.Word{nil, words(3), make([]api.Word, 4097)} {
			if got, code := guess.In(c, draws, guessed); got || code != api.ErrConfig {
				t.Errorf("P26.2: In(%+v, %d draws): %v, %d", c, len(draws), got, code)
			}
		}
		for _, n := range []int{-1, 0, 1, 2, 99, math.MaxInt, math.MinInt} {
			for _, calls := range [][]api.Call{nil, guessed, make([]api.Call, 13)} {
				if all, some, code := guess.Count(c, calls, n); all != 0 || some != 0 || code != api.ErrConfig {
					t.Errorf("P26.3: Count(%+v, %d calls, %d): %d, %d, %d", c, len(calls), n, all, some, code)
				}
			}
		}
	}
}

// P26.2: more draws than a kernel takes are refused; as many as it takes are not.
func TestManyDraws(t *testing.T) {
	guessed := []api.Call{spawn(), create(0), by(1, read(of(1, 0), 0, 0))}
	for n, want := range map[int]api.Errno{0: api.OK, 1: api.OK, 4096: api.OK, 4097: api.ErrMany, 9000: api.ErrMany} {
		got, code := guess.In(small(), make([]api.Word, n), guessed)
		if code != want || got != (want == api.OK && n > 0) {
			t.Errorf("P26.2: %d draws: %v, %d", n, got, code)
		}
	}
}

// P26.3: what is too much to count is refused; what is just not too much is counted, at each width.
func TestCountBounds(t *testing.T) {
	numbers := []int{math.MinInt, -12, -1, 13, 14, 64, 128, 1 << 31, 1 << 57, 1 << 58, 1 << 60, 1 << 61, 1 << 62, math.MaxInt}
	for n := range 13 {
		numbers = append(numbers, n)
	}
	for width := 1; width <= 128; width++ {
		c := small()
		c.Width = width
		for _, n := range numbers {
			for _, calls := range [][]api.Call{nil, make([]api.Call, 12), make([]api.Call, 13), make([]api.Call, 3000)} {
				want := api.OK
				if n < 0 || n > 12 || n*width > 12 || len(calls) > 12 {
					want = api.ErrMany
				}
				lists := 0
				if want == api.OK {
					lists = 1 << (n * width)
				}
				if all, some, code := guess.Count(c, calls, n); all != lists || some != 0 || code != want {
					t.Errorf("P26.3: %d calls, %d draws of the width %d: %d, %d, %d", len(calls), n, width, all, some, code)
				}
			}
		}
	}
}

// P26.4: the bound, reckoned by great numbers, and what is too much for it.
func TestBound(t *testing.T) {
	for _, q := range []int{math.MinInt, -1, 0, 1, 2, 3, 7, 12, 4095, 4096, 4097, math.MaxInt} {
		for _, n := range []int{math.MinInt, -1, 0, 1, 2, 3, 4, 5, 6, 7, 8, 9, 10, 11, 12, 13, 1 << 60, 1 << 61, 1 << 62, math.MaxInt / 3, math.MaxInt} {
			for _, w := range []int{math.MinInt, -2, -1, 0, 1, 2, 3, 4, 5, 6, 7, 8, 9, 10, 11, 12, 13, 24, 128, 1 << 62, math.MaxInt} {
				bits := new(big.Int).Mul(big.NewInt(int64(n)), big.NewInt(int64(w)))
				code, want := api.OK, big.NewInt(0)
				switch {
				case q < 0 || n < 0 || w < 1 || w > 12 || q > 4096 || bits.Cmp(big.NewInt(12)) > 0:
					code = api.ErrMany
				case n > 0:
					want.Exp(big.NewInt(2), big.NewInt(int64(w*(n-1))), nil)
					want.Mul(want, big.NewInt(int64(q*n)))
				}
				got, e := guess.Bound(q, n, w)
				if e != code || big.NewInt(int64(got)).Cmp(want) != 0 {
					t.Errorf("P26.4: Bound(%d, %d, %d): %d, %d, want %d, %d", q, n, w, got, e, want, code)
				}
			}
		}
	}
}
