package validate_test

import (
	"math"
	"math/rand"
	"slices"
	"testing"

	"sesame/api"
	"sesame/cache"
	"sesame/catalogue"
	"sesame/domain"
	"sesame/validate"
)

// of gives a capability with a small word.
func of(obj int, word uint64) api.Cap { return api.Cap{Obj: obj, Pass: api.Word{Lo: word}} }

// live: a token of the model.
type live struct {
	is     api.Cap
	rights int
	parent api.Cap // itself, if it is a root
}

// model: what a Validator is to go by: the tokens in a plain list, no cache.
type model struct {
	tokens []live
}

func (m *model) find(c api.Cap) (live, bool) {
	for _, l := range m.tokens {
		if l.is == c {
			return l, true
		}
	}
	return live{}, false
}

// has: each right of need, one by one; a need that is no mask is had by nobody.
func has(rights, need int) bool {
	if need < 1 || need > 31 {
		return false
	}
	for _, right := range []int{1, 2, 4, 8, 16} {
		if need/right%2 == 1 && rights/right%2 == 0 {
			return false
		}
	}
	return true
}

// given: what P19.1 says.
func (m *model) given(c api.Cap, need int) api.Errno {
	l, there := m.find(c)
	if !there {
		return api.ErrCap
	}
	if !has(l.rights, need) {
		return api.ErrRights
	}
	return api.OK
}

// named: what P19.2 says: first those that are OK, then whether one is live.
func (m *model) named(obj int, need int, list []api.Cap) (api.Cap, api.Errno) {
	for _, c := range list {
		if c.Obj == obj && m.given(c, need) == api.OK {
			return c, api.OK
		}
	}
	for _, c := range list {
		if _, there := m.find(c); there && c.Obj == obj {
			return api.Cap{}, api.ErrRights
		}
	}
	return api.Cap{}, api.ErrCap
}

// drop takes a subtree away.
func (m *model) drop(c api.Cap) {
	var below []api.Cap
	for _, l := range m.tokens {
		if l.parent == c && l.is != c {
			below = append(below, l.is)
		}
	}
	m.tokens = slices.DeleteFunc(m.tokens, func(l live) bool { return l.is == c })
	for _, child := range below {
		m.drop(child)
	}
}

// size: the numbers of a cache.
type size struct {
	sets, ways, knob int
}

// sizes: none, the smallest, the greatest, and some where all capabilities fall in one set.
func sizes() []size {
	return []size{{0, 1, 64}, {0, 4, 0}, {1, 1, 0}, {1, 1, 64}, {1, 2, 64}, {1, 4, 64}, {2, 1, 1}, {3, 2, 64}, {4, 1, 0}, {16, 1, 64}, {16, 4, 0}, {16, 4, 64}}
}

// world: one catalogue, its model, and a Validator with each size of cache: their answers must be the same.
type world struct {
	t      *testing.T
	c      *catalogue.Catalogue
	m      *model
	caches []*cache.Cache
	vs     []*validate.Validator
	sizes  []size
	room   int
}

func made(t *testing.T, entries, knob int, sizes ...size) *world {
	t.Helper()
	c, code := catalogue.New(entries, knob)
	if code != api.OK {
		t.Fatalf("a catalogue: %d", code)
	}
	w := &world{t: t, c: c, m: &model{}, sizes: sizes, room: entries}
	for _, s := range sizes {
		k := fresh(t, s)
		v := validate.New(c, k)
		if v == nil {
			t.Fatal("P19.1: New: nil")
		}
		w.caches, w.vs = append(w.caches, k), append(w.vs, v)
	}
	return w
}

func fresh(t *testing.T, s size) *cache.Cache {
	t.Helper()
	k, code := cache.New(s.sets, s.ways, s.knob)
	if code != api.OK {
		t.Fatalf("a cache %v: %d", s, code)
	}
	return k
}

func (w *world) root(x api.Cap, rights int) {
	w.t.Helper()
	if _, code := w.c.Root(x, rights); code != api.OK {
		w.t.Fatalf("a root %v: %d", x, code)
	}
	w.m.tokens = append(w.m.tokens, live{x, rights, x})
}

func (w *world) child(above, x api.Cap, rights int) {
	w.t.Helper()
	n, _ := w.c.Find(above)
	if _, code := w.c.Child(n, x, rights); code != api.OK {
		w.t.Fatalf("a child %v of %v: %d", x, above, code)
	}
	w.m.tokens = append(w.m.tokens, live{x, rights, above})
}

// drop drops a subtree, and tells all Validators.
func (w *world) drop(x api.Cap) {
	w.t.Helper()
	n, there := w.c.Find(x)
	if _, code := w.c.Drop(n); !there || code != api.OK {
		w.t.Fatalf("a drop of %v: %v, %d", x, there, code)
	}
	w.m.drop(x)
	for _, v := range w.vs {
		v.Gone()
	}
}

// given holds all Validators against the model.
func (w *world) given(x api.Cap, need int) {
	w.t.Helper()
	want := w.m.given(x, need)
	for i, v := range w.vs {
		if got := v.Given(x, need); got != want {
			w.t.Fatalf("P19.1: %v: Given(%v, %d): %d, want %d", w.sizes[i], x, need, got, want)
		}
	}
}

// named too; and what is answered is given, as P19.5 says.
func (w *world) named(obj, need int, list []api.Cap) {
	w.t.Helper()
	want, code := w.m.named(obj, need, list)
	for i, v := range w.vs {
		got, is := v.Named(obj, need, list)
		if got != want || is != code {
			w.t.Fatalf("P19.2: %v: Named(%d, %d, %v): %v, %d, want %v, %d", w.sizes[i], obj, need, list, got, is, want, code)
		}
		if is == api.OK && v.Given(got, need) != api.OK {
			w.t.Fatalf("P19.5: %v: Named answers %v, Given refuses it", w.sizes[i], got)
		}
	}
}

// cached: what is in the caches is what the catalogue has, whoever of them was asked about.
func (w *world) cached(about []api.Cap) {
	w.t.Helper()
	for i, k := range w.caches {
		for _, x := range about {
			l, there := w.m.find(x)
			if rights, known := k.Get(x); known && (!there || rights != l.rights) {
				w.t.Fatalf("P19.3: %v: the cache has %v with %d, want %v", w.sizes[i], x, rights, l)
			}
		}
	}
}

// say is an answer that is asked for by hand.
func (w *world) say(x api.Cap, need int, want api.Errno) {
	w.t.Helper()
	if got := w.m.given(x, need); got != want {
		w.t.Fatalf("the model: given(%v, %d): %d, want %d", x, need, got, want)
	}
	for range 2 {
		w.given(x, need)
	}
}

func (w *world) sayNamed(obj, need int, list []api.Cap, want api.Cap, code api.Errno) {
	w.t.Helper()
	if got, is := w.m.named(obj, need, list); got != want || is != code {
		w.t.Fatalf("the model: named(%d, %d, %v): %v, %d, want %v, %d", obj, need, list, got, is, want, code)
	}
	for range 2 {
		w.named(obj, need, list)
	}
}

// TestExamples: those of the chapter, with each size of cache.
func TestExamples(t *testing.T) {
	w := made(t, 8, 0, sizes()...)
	a, b := of(1, 5), of(1, 7)
	w.root(a, api.All)
	w.child(a, b, api.Read)
	w.say(a, api.Write, api.OK)
	w.say(b, api.Read, api.OK)
	w.say(b, api.Write, api.ErrRights)
	w.say(of(1, 6), api.Read, api.ErrCap)
	w.say(of(2, 5), api.Read, api.ErrCap)
	w.sayNamed(1, api.Write, []api.Cap{b, a}, a, api.OK)
	w.sayNamed(1, api.Read, []api.Cap{b, a}, b, api.OK)
	w.sayNamed(1, api.Write, []api.Cap{b}, api.Cap{}, api.ErrRights)
	w.sayNamed(1, api.Read, nil, api.Cap{}, api.ErrCap)
	w.sayNamed(2, api.Read, []api.Cap{a, b}, api.Cap{}, api.ErrCap)
	w.say(b, api.Read, api.OK)
	w.drop(b)
	w.say(b, api.Read, api.ErrCap)
	w.child(a, b, api.Write)
	w.say(b, api.Read, api.ErrRights)
	w.say(b, api.Write, api.OK)
}

// needs: every mask, and numbers that are none.
func needs() []int {
	out := []int{math.MinInt, math.MinInt + 1, math.MinInt + 31, -1 << 32, -32, -31, -16, -1, 32, 33, 63, 64, 255, 256, 257, 1 << 32, 1<<32 + 1, 1 << 62, math.MaxInt - 31, math.MaxInt}
	for need := range 32 {
		out = append(out, need)
	}
	return out
}

// TestEveryRightsAndNeed: every rights that a token may have, asked with every need (P19.1, P19.2).
func TestEveryRightsAndNeed(t *testing.T) {
	w := made(t, 64, 64, sizes()...)
	root := of(1, 99)
	w.root(root, api.All)
	for rights := 1; rights <= api.All; rights++ {
		w.child(root, of(1, uint64(rights)), rights)
	}
	for _, need := range needs() {
		for rights := range 33 { // those of 0 and 32 aren't there
			x := of(1, uint64(rights))
			w.given(x, need)
			w.given(x, need)
			w.named(1, need, []api.Cap{x})
			w.named(1, need, []api.Cap{x, root})
		}
	}
}

// all: capabilities of every kind, with any int and any word.
func all() []api.Cap {
	top := ^uint64(0)
	var out []api.Cap
	for _, obj := range []int{math.MinInt, -1, 0, 1, 2, api.MaxId, api.MaxId + 1, math.MaxInt} {
		for _, word := range []api.Word{{}, {Lo: 1}, {Hi: 1}, {Hi: 1, Lo: 1}, {Lo: top}, {Hi: top}, {Hi: top, Lo: top}} {
			out = append(out, api.Cap{Obj: obj, Pass: word})
		}
	}
	return out
}

// TestEveryKind: capabilities of every kind, the zero one too: none live, some live, all live, and none again.
func TestEveryKind(t *testing.T) {
	w := made(t, 64, 64, sizes()...)
	kinds := all()
	look := func() {
		t.Helper()
		for _, x := range kinds {
			for _, need := range []int{api.Read, api.Write, api.All, 0} {
				w.given(x, need)
				w.named(x.Obj, need, kinds)
			}
		}
		w.named(3, api.Read, kinds)
		w.cached(kinds)
	}
	look()
	roots := map[int]api.Cap{}
	for i, x := range kinds {
		if above, there := roots[x.Obj]; there {
			w.child(above, x, 1+i%31)
		} else {
			roots[x.Obj] = x
			w.root(x, api.All)
		}
		look()
	}
	for _, x := range kinds {
		if roots[x.Obj] == x {
			w.drop(x)
			look()
		}
	}
	if w.c.Count() != 0 {
		t.Fatalf("%d are left", w.c.Count())
	}
}

// TestNamedOrder: every list of up to four out of six capabilities, some of them twice: the first that has the right; ErrRights ahead of ErrCap, wherever the live one stands (P19.2).
func TestNamedOrder(t *testing.T) {
	w := made(t, 8, 64, sizes()...)
	a, b, c := of(1, 1), of(1, 2), of(1, 3)
	w.root(a, api.All)
	w.child(a, b, api.Read)
	w.child(a, c, api.Read+api.Write)
	w.root(of(2, 1), api.All)
	from := []api.Cap{a, b, c, of(2, 1), of(1, 4), of(2, 2)}
	var try func(list []api.Cap)
	try = func(list []api.Cap) {
		for obj := range 4 {
			for _, need := range []int{0, api.Read, api.Write, api.Read + api.Write, api.Destroy} {
				w.named(obj, need, list)
			}
		}
		if len(list) == 4 {
			return
		}
		for _, x := range from {
			try(append(slices.Clone(list), x))
		}
	}
	try(nil)
	dead := of(1, 9)
	w.sayNamed(1, api.Write, []api.Cap{b, dead}, api.Cap{}, api.ErrRights)
	w.sayNamed(1, api.Write, []api.Cap{dead, b}, api.Cap{}, api.ErrRights)
	w.sayNamed(1, api.Write, []api.Cap{dead, b, of(2, 1), c, a}, c, api.OK)
	w.sayNamed(1, api.Write, []api.Cap{of(2, 1), dead}, api.Cap{}, api.ErrCap)
}

// step: something that can happen in TestShortPasts.
type step func(w *world)

// TestShortPasts: every past of five steps: asked, dropped, issued again with other rights, in each order (P19.3).
func TestShortPasts(t *testing.T) {
	a, b, c := of(1, 1), of(1, 2), of(1, 3)
	list := []api.Cap{c, b, a}
	issue := func(rights int) step {
		return func(w *world) {
			if _, there := w.m.find(b); !there {
				w.child(a, b, rights)
			}
		}
	}
	steps := []step{
		func(w *world) { w.given(a, api.Write) },
		func(w *world) { w.given(b, api.Read) },
		func(w *world) { w.named(1, api.Read, list) },
		func(w *world) { w.given(c, api.Read) },
		issue(api.Read),
		issue(api.Write),
		func(w *world) {
			if _, there := w.m.find(b); there {
				w.drop(b)
			}
		},
		func(w *world) {
			for _, v := range w.vs {
				v.Gone()
			}
		},
	}
	most := 8 * 8 * 8 * 8 * 8
	for past := range most {
		w := made(t, 3, 64, size{0, 1, 0}, size{1, 1, 0}, size{1, 2, 64})
		w.root(a, api.All)
		for rest := past + most; rest > 1; rest /= 8 {
			steps[rest%8](w)
		}
		for _, x := range list {
			w.given(x, api.Read)
			w.given(x, api.Write)
		}
		w.named(1, api.Write, list)
		w.cached(list)
	}
}

// TestLongPasts: long ones by chance, with a small catalogue and few words, so that each comes and goes often (P19.1 to P19.5).
func TestLongPasts(t *testing.T) {
	for seed := range 12 {
		chance := rand.New(rand.NewSource(int64(seed)))
		w := made(t, []int{4, 16, 64}[seed%3], []int{0, 2, 64}[seed%3], sizes()...)
		var caps []api.Cap
		for obj := range 4 {
			for word := range 8 {
				caps = append(caps, of(obj, uint64(word)))
			}
		}
		for range 3000 {
			w.chance(chance, caps)
		}
	}
}

// chance does one thing.
func (w *world) chance(chance *rand.Rand, caps []api.Cap) {
	w.t.Helper()
	x := caps[chance.Intn(len(caps))]
	switch chance.Intn(8) {
	case 0, 1:
		w.grow(chance, x)
	case 2:
		if _, there := w.m.find(x); there && chance.Intn(2) == 0 {
			w.drop(x)
		}
	case 3, 4:
		list := make([]api.Cap, chance.Intn(api.MaxList+1))
		for i := range list {
			list[i] = caps[chance.Intn(len(caps))]
		}
		w.named(x.Obj, chance.Intn(33), list)
	case 5:
		w.cached(caps)
	default:
		w.given(x, chance.Intn(33))
	}
}

// grow brings a capability in, if it may be: as a root, or below one of its object's.
func (w *world) grow(chance *rand.Rand, x api.Cap) {
	tokens := w.c.Of(x.Obj)
	rights := 1 + chance.Intn(31)
	if len(tokens) == 0 {
		if w.c.Count() < w.room {
			w.root(x, rights)
		}
		return
	}
	above := tokens[chance.Intn(len(tokens))]
	if _, there := w.m.find(x); !there && rights&above.Rights != 0 && w.c.Count() < w.room {
		w.child(above.Cap, x, rights&above.Rights)
	}
}

// TestIssuedLater: what was refused as not live is live at once when it is issued, without a Gone: no refusal is kept (P19.3).
func TestIssuedLater(t *testing.T) {
	w := made(t, 4, 64, sizes()...)
	a, b := of(1, 1), of(1, 2)
	w.say(a, api.Read, api.ErrCap)
	w.sayNamed(1, api.Read, []api.Cap{b, a}, api.Cap{}, api.ErrCap)
	w.root(a, api.All)
	w.say(a, api.Read, api.OK)
	w.say(b, api.Read, api.ErrCap)
	w.sayNamed(1, api.Read, []api.Cap{b, a}, a, api.OK)
	w.child(a, b, api.Read)
	w.say(b, api.Read, api.OK)
	w.sayNamed(1, api.Read, []api.Cap{b, a}, b, api.OK)
}

// TestDropped: a whole subtree goes, what is outside stays; behind the root's drop nothing of the object is live (P19.3).
func TestDropped(t *testing.T) {
	w := made(t, 8, 64, sizes()...)
	a, b, c, d, other := of(1, 1), of(1, 2), of(1, 3), of(1, 4), of(2, 1)
	w.root(a, api.All)
	w.child(a, b, 7)
	w.child(b, c, 3)
	w.child(a, d, 1)
	w.root(other, api.All)
	for _, x := range []api.Cap{a, b, c, d, other} {
		w.say(x, api.Read, api.OK)
	}
	w.drop(b)
	w.say(b, api.Read, api.ErrCap)
	w.say(c, api.Read, api.ErrCap)
	w.say(a, api.Read, api.OK)
	w.say(d, api.Read, api.OK)
	w.sayNamed(1, api.Write, []api.Cap{c, b, d}, api.Cap{}, api.ErrRights)
	w.child(d, c, 1)
	w.say(c, api.Read, api.OK)
	w.say(c, api.Write, api.ErrRights)
	w.drop(a)
	for _, x := range []api.Cap{a, b, c, d} {
		w.say(x, api.Read, api.ErrCap)
	}
	w.sayNamed(1, api.Read, []api.Cap{a, b, c, d, other}, api.Cap{}, api.ErrCap)
	w.say(other, api.All, api.OK)
}

// TestFull: a full catalogue, far more tokens than a cache has places (P19.3).
func TestFull(t *testing.T) {
	w := made(t, api.MaxEntries, 64, sizes()...)
	var caps []api.Cap
	for n := range api.MaxEntries {
		x := of(n%5, uint64(n))
		caps = append(caps, x)
		if n < 5 {
			w.root(x, api.All)
		} else {
			w.child(of(n%5, uint64(n%5)), x, 1+n%31)
		}
	}
	for range 3 {
		for _, x := range caps {
			w.given(x, api.Read)
			w.given(x, api.Write)
		}
		for obj := range 6 {
			for _, need := range needs() {
				w.named(obj, need, caps)
			}
		}
		w.cached(caps)
	}
}

// TestGoneTurns: each Gone turns the epoch once, through more than two rounds, and nothing else does; behind it nothing is known (P19.3).
func TestGoneTurns(t *testing.T) {
	for _, s := range sizes() {
		w := made(t, 4, 64, s)
		a, b, k := of(1, 1), of(1, 2), w.caches[0]
		w.root(a, api.All)
		w.child(a, b, api.Read)
		for turn := range 2*(api.MaxEpoch+1) + 5 {
			if k.Epoch() != turn%(api.MaxEpoch+1) {
				t.Fatalf("P19.3: %v: the epoch is %d behind %d calls of Gone", s, k.Epoch(), turn)
			}
			w.given(a, api.Read)
			w.given(b, api.Read)
			w.given(of(1, 3), api.Read)
			w.named(1, api.Write, []api.Cap{b, a})
			if k.Epoch() != turn%(api.MaxEpoch+1) {
				t.Fatalf("P19.3: %v: a question turned the epoch to %d", s, k.Epoch())
			}
			w.vs[0].Gone()
			for _, x := range []api.Cap{a, b} {
				if _, known := k.Get(x); known {
					t.Fatalf("P19.3: %v: %v is known behind Gone", s, x)
				}
			}
		}
	}
}

// TestEveryEpoch: what was known in an epoch is not known when its number comes again (P19.3).
func TestEveryEpoch(t *testing.T) {
	for turns := range 2*(api.MaxEpoch+1) + 2 {
		w := made(t, 4, 64, size{1, 1, 0}, size{16, 4, 64})
		a, b := of(1, 1), of(1, 2)
		w.root(a, api.All)
		w.child(a, b, api.Read)
		w.say(b, api.Read, api.OK)
		w.drop(b)
		for range turns {
			for _, v := range w.vs {
				v.Gone()
			}
		}
		w.say(b, api.Read, api.ErrCap)
		w.child(a, b, api.Write)
		w.say(b, api.Read, api.ErrRights)
	}
}

// TestUsedCache: a cache that was used ahead of New, in whatever epoch, shows nothing of it; its epoch is left as it was (P19.3).
func TestUsedCache(t *testing.T) {
	for _, s := range sizes() {
		for _, turns := range []int{0, 1, 2, 100, api.MaxEpoch, api.MaxEpoch + 1, 2 * api.MaxEpoch} {
			k := fresh(t, s)
			a, b, dead := of(1, 1), of(1, 2), of(1, 3)
			for range turns {
				k.Put(a, api.Read)
				k.Turn()
			}
			k.Put(dead, api.All)
			k.Put(b, api.All)
			k.Put(a, api.Read)
			epoch := k.Epoch()
			c, _ := catalogue.New(2, 64)
			c.Root(a, api.All)
			c.Child(0, b, api.Read)
			v := validate.New(c, k)
			if k.Epoch() != epoch {
				t.Fatalf("P19.3: %v: New turned the epoch from %d to %d", s, epoch, k.Epoch())
			}
			x, code := v.Named(1, api.Write, []api.Cap{dead, b, a})
			if x != a || code != api.OK || v.Given(a, api.All) != api.OK || v.Given(b, api.Write) != api.ErrRights || v.Given(dead, api.Read) != api.ErrCap {
				t.Fatalf("P19.3: %v: what was put ahead of New, behind %d turns, is seen: %v, %d", s, turns, x, code)
			}
		}
	}
}

// TestNextValidator: a cache that one Validator leaves to the next, of another catalogue (P19.3).
func TestNextValidator(t *testing.T) {
	for _, s := range sizes() {
		k := fresh(t, s)
		a := of(1, 1)
		first, _ := catalogue.New(2, 64)
		first.Root(a, api.All)
		if code := validate.New(first, k).Given(a, api.All); code != api.OK {
			t.Fatalf("P19.1: %d", code)
		}
		second, _ := catalogue.New(2, 64)
		v := validate.New(second, k)
		if code := v.Given(a, api.Read); code != api.ErrCap {
			t.Fatalf("P19.3: %v: a token of the catalogue before: %d", s, code)
		}
		second.Root(a, api.Read)
		if code := v.Given(a, api.Write); code != api.ErrRights {
			t.Fatalf("P19.3: %v: rights of the catalogue before: %d", s, code)
		}
	}
}

// knows holds what a cache knows against what it should.
func knows(t *testing.T, k *cache.Cache, x api.Cap, rights int, known bool) {
	t.Helper()
	if got, is := k.Get(x); got != rights || is != known {
		t.Errorf("P19.3: the cache has %v: %d, %v, want %d, %v", x, got, is, rights, known)
	}
}

// TestIntoTheCache: what the catalogue has answered as live goes in, with all its rights, whatever was needed; what is not live doesn't, nor what wasn't asked about (P19.3).
func TestIntoTheCache(t *testing.T) {
	w := made(t, 4, 64, size{1, 4, 64})
	a, b, c, dead, k := of(1, 1), of(1, 2), of(1, 3), of(1, 4), w.caches[0]
	w.root(a, api.All)
	w.child(a, b, api.Read)
	w.child(a, c, api.Write)
	w.given(a, api.Read)
	w.given(dead, api.Read)
	w.given(api.Cap{}, api.Read)
	knows(t, k, a, api.All, true)
	knows(t, k, b, 0, false)
	knows(t, k, c, 0, false)
	knows(t, k, dead, 0, false)
	knows(t, k, api.Cap{}, 0, false)
	w.given(b, api.Write) // refused, but live
	knows(t, k, b, api.Read, true)
	w.named(1, api.Write, []api.Cap{dead, of(2, 1), c, a})
	knows(t, k, c, api.Write, true)
	knows(t, k, dead, 0, false)
	knows(t, k, of(2, 1), 0, false)
}

// TestNotPutAgain: what the cache has told is not put again: it grows no younger (P19.3: only what the catalogue has just answered goes in).
func TestNotPutAgain(t *testing.T) {
	w := made(t, 4, 64, size{1, 2, 64})
	a, b, c, k := of(1, 1), of(1, 2), of(1, 3), w.caches[0]
	w.root(a, api.All)
	w.child(a, b, api.Read)
	w.child(a, c, api.Write)
	w.given(a, api.Read)
	w.given(b, api.Read)
	w.given(a, api.Read)
	w.given(c, api.Read)
	knows(t, k, a, 0, false)
	knows(t, k, b, api.Read, true)
	knows(t, k, c, api.Write, true)
}

// TestCacheIsAsked: what is known is told by the cache: asked once each time, it answers from the second time on.
func TestCacheIsAsked(t *testing.T) {
	w := made(t, 4, 64, size{1, 1, 64})
	a, b := of(1, 1), of(1, 2)
	w.root(a, api.All)
	for range 5 {
		w.given(a, api.Read)
	}
	w.given(b, api.Read)
	if yes, no := w.caches[0].Hits(); yes != 4 || no != 2 {
		t.Errorf("the cache told %d, and %d not, want 4 and 2", yes, no)
	}
}

// look tells all of a catalogue.
func look(c *catalogue.Catalogue, objects int) ([]api.Token, []int) {
	var tokens []api.Token
	counts := []int{c.Count()}
	for n := range api.MaxEntries {
		token, there := c.At(n)
		if there {
			at, found := c.Find(token.Cap)
			if !found {
				at = -1
			}
			counts = append(counts, n, at)
		}
		tokens = append(tokens, token)
	}
	for obj := range objects {
		tokens = append(tokens, c.Of(obj)...)
		counts = append(counts, c.In(obj))
	}
	return tokens, counts
}

// TestCatalogueStays: whatever is asked, the catalogue is as it was (P19.4).
func TestCatalogueStays(t *testing.T) {
	w := made(t, 16, 64, sizes()...)
	var caps []api.Cap
	for n := range 20 {
		caps = append(caps, of(n%4, uint64(n)))
	}
	for n, x := range caps[:12] {
		if n < 3 {
			w.root(x, api.All)
		} else if n%4 != 3 {
			w.child(of(n%4, uint64(n%4)), x, 1+n)
		}
	}
	tokens, counts := look(w.c, 5)
	for _, x := range caps {
		for _, need := range needs() {
			w.given(x, need)
			w.named(x.Obj, need, caps)
		}
		for _, v := range w.vs {
			v.Gone()
		}
	}
	after, counted := look(w.c, 5)
	if !slices.Equal(after, tokens) || !slices.Equal(counted, counts) {
		t.Errorf("P19.4: the catalogue has changed: %v, %v, want %v, %v", after, counted, tokens, counts)
	}
}

// TestListStays: a list stays as it is, its spare room too, and is not kept: what it holds later plays no part (P19.4).
func TestListStays(t *testing.T) {
	w := made(t, 4, 64, sizes()...)
	a, b, dead := of(1, 1), of(1, 2), of(1, 3)
	w.root(a, api.All)
	w.child(a, b, api.Read)
	room := []api.Cap{dead, b, of(2, 1), a, a, b, dead, {}}
	before := slices.Clone(room)
	for most := range len(room) + 1 {
		for _, need := range needs() {
			for obj := range 4 {
				w.named(obj, need, room[:most])
				if !slices.Equal(room, before) {
					t.Fatalf("P19.4: Named(%d, %d, ..) of %d changed the list to %v", obj, need, most, room)
				}
			}
		}
	}
	w.sayNamed(1, api.Write, room[:1:8], api.Cap{}, api.ErrCap) // a stands in the spare room alone
	list := []api.Cap{b, a}
	w.named(1, api.Read, list)
	list[0], list[1] = dead, dead
	w.sayNamed(1, api.Read, nil, api.Cap{}, api.ErrCap)
	w.sayNamed(1, api.Read, list, api.Cap{}, api.ErrCap)
	w.say(b, api.Read, api.OK)
	w.say(dead, api.Read, api.ErrCap)
}

// TestOfADomain: a process's list, as domain tells it.
func TestOfADomain(t *testing.T) {
	w := made(t, 4, 64, sizes()...)
	a, b := of(1, 1), of(1, 2)
	w.root(a, api.All)
	w.child(a, b, api.Read)
	l, code := domain.New(3)
	if code != api.OK {
		t.Fatal(code)
	}
	w.sayNamed(1, api.Read, l.All(), api.Cap{}, api.ErrCap)
	l.Add(b)
	l.Add(a)
	w.sayNamed(1, api.Read, l.All(), b, api.OK)
	w.sayNamed(1, api.Write, l.All(), a, api.OK)
	l.Remove(1)
	w.sayNamed(1, api.Write, l.All(), api.Cap{}, api.ErrRights)
}

// TestLongList: far more than a process's list may hold, the one that is looked for at its end (P19.2).
func TestLongList(t *testing.T) {
	w := made(t, 4, 64, size{0, 1, 0}, size{1, 1, 0}, size{16, 4, 64})
	a, b := of(1, 1), of(1, 2)
	w.root(a, api.All)
	w.child(a, b, api.Read)
	list := make([]api.Cap, 100000)
	for i := range list {
		list[i] = []api.Cap{b, of(1, uint64(i+3)), of(2, 1)}[i%3]
	}
	for _, v := range w.vs {
		if x, code := v.Named(1, api.Write, list); x != (api.Cap{}) || code != api.ErrRights {
			t.Errorf("P19.2: %v, %d, want ErrRights", x, code)
		}
	}
	list[len(list)-1] = a
	for _, v := range w.vs {
		if x, code := v.Named(1, api.Write, list); x != a || code != api.OK {
			t.Errorf("P19.2: %v, %d, want %v", x, code, a)
		}
	}
}

// TestApart: two Validators with their own catalogues and caches know nothing of each other; two of one catalogue go by it both.
func TestApart(t *testing.T) {
	one, two := made(t, 4, 64, sizes()...), made(t, 4, 64, sizes()...)
	a := of(1, 1)
	one.root(a, api.All)
	one.say(a, api.Read, api.OK)
	two.say(a, api.Read, api.ErrCap)
	two.root(a, api.Write)
	one.say(a, api.All, api.OK)
	two.say(a, api.Read, api.ErrRights)
	one.drop(a)
	one.say(a, api.Write, api.ErrCap)
	two.say(a, api.Write, api.OK)
}
