package revoke_test

import (
	"math"
	"math/rand"
	"slices"
	"testing"

	"sesame/api"
	"sesame/catalogue"
	"sesame/quota"
	"sesame/revoke"
	"sesame/store"
)

// of gives a capability with a small word.
func of(obj int, word uint64) api.Cap { return api.Cap{Obj: obj, Pass: api.Word{Lo: word}} }

// live: a token of the model, at its number there.
type live struct {
	there  bool
	is     api.Cap
	rights int
	parent int // a number; -1: none
	since  int // tokens that came later have more
}

// row: an object of the model.
type row struct {
	id   int
	data []byte
}

// model: what all three are to hold, in plain lists, told from the promises alone.
type model struct {
	tokens []live // by number
	rows   []row  // by id
	next   int
	pages  int
	clock  int
}

// number gives the place of a capability, or -1.
func (m *model) number(x api.Cap) int {
	return slices.IndexFunc(m.tokens, func(l live) bool { return l.there && l.is == x })
}

// enter puts a token at the lowest number that is free.
func (m *model) enter(l live) {
	l.there, l.since = true, m.clock
	m.clock++
	m.tokens[slices.IndexFunc(m.tokens, func(l live) bool { return !l.there })] = l
}

// below gives the numbers of a subtree: each parent ahead of its children, those by age.
func (m *model) below(n int) []int {
	out := []int{n}
	var children []int
	for at, l := range m.tokens {
		if l.there && l.parent == n {
			children = append(children, at)
		}
	}
	slices.SortFunc(children, func(a, b int) int { return m.tokens[a].since - m.tokens[b].since })
	for _, child := range children {
		out = append(out, m.below(child)...)
	}
	return out
}

// of gives the numbers of an object's tokens, from its root on.
func (m *model) of(obj int) []int {
	root := slices.IndexFunc(m.tokens, func(l live) bool { return l.there && l.is.Obj == obj && l.parent == -1 })
	if root < 0 {
		return nil
	}
	return m.below(root)
}

// list tells an object's tokens as the catalogue's Of is to.
func (m *model) list(obj int) []api.Token {
	numbers := m.of(obj)
	var out []api.Token
	for _, n := range numbers {
		l := m.tokens[n]
		out = append(out, api.Token{Cap: l.is, Rights: l.rights, Parent: slices.Index(numbers, l.parent)})
	}
	return out
}

// objects tells which objects have tokens, rising.
func (m *model) objects() []int {
	var out []int
	for _, l := range m.tokens {
		if l.there {
			out = append(out, l.is.Obj)
		}
	}
	slices.Sort(out)
	return slices.Compact(out)
}

// count tells how many tokens there are.
func (m *model) count() int {
	n := 0
	for _, l := range m.tokens {
		if l.there {
			n++
		}
	}
	return n
}

// free tells how many pages are free, a page at a time.
func (m *model) free() int {
	n := m.pages
	for _, r := range m.rows {
		for start := 0; start < len(r.data); start += 64 {
			n--
		}
	}
	return n
}

// take takes tokens away, and tells them.
func (m *model) take(numbers []int) []api.Cap {
	var out []api.Cap
	for _, n := range numbers {
		out = append(out, m.tokens[n].is)
		m.tokens[n] = live{}
	}
	return out
}

// destroy takes an object away.
func (m *model) destroy(obj int) {
	m.rows = slices.DeleteFunc(m.rows, func(r row) bool { return r.id == obj })
}

// token: what Token is to answer.
func (m *model) token(x api.Cap) ([]api.Cap, api.Errno) {
	n := m.number(x)
	if n < 0 {
		return nil, api.ErrCap
	}
	if m.tokens[n].rights&8 == 0 {
		return nil, api.ErrRights
	}
	if m.tokens[n].parent == -1 {
		m.destroy(x.Obj)
	}
	return m.take(m.below(n)), api.OK
}

// object: what Object is to answer.
func (m *model) object(x api.Cap) ([]api.Cap, api.Errno) {
	n := m.number(x)
	if n < 0 {
		return nil, api.ErrCap
	}
	if m.tokens[n].rights&16 == 0 {
		return nil, api.ErrRights
	}
	m.destroy(x.Obj)
	return m.take(m.of(x.Obj)), api.OK
}

// world: the three that a call is given, and the model of them.
type world struct {
	t *testing.T
	c *catalogue.Catalogue
	q *quota.Quota
	s *store.Store
	m *model
}

// bounds: those of a world.
type bounds struct {
	room, knob, each, all, objects, pages int
}

// wideOpen: bounds that no small test meets.
var wideOpen = bounds{room: 16, knob: 64, each: 16, all: 16, objects: 8, pages: 16}

// made gives an empty world.
func made(t *testing.T, b bounds) *world {
	t.Helper()
	c, first := catalogue.New(b.room, b.knob)
	q, second := quota.New(b.each, b.all)
	s, third := store.New(b.objects, b.pages)
	if first != api.OK || second != api.OK || third != api.OK {
		t.Fatalf("the layers below: %d, %d, %d", first, second, third)
	}
	return &world{t, c, q, s, &model{tokens: make([]live, b.room), next: 1, pages: b.pages}}
}

// create makes an object whose bytes tell its number, without a token.
func (w *world) create(size int) int {
	w.t.Helper()
	id, code := w.s.Create(size)
	if code != api.OK {
		w.t.Fatalf("an object of %d: %d", size, code)
	}
	w.m.rows = append(w.m.rows, row{id, make([]byte, size)})
	w.m.next++
	w.write(id, 0, slices.Repeat([]byte{byte(id)}, min(size, api.MaxMove)))
	return id
}

// write writes on both sides.
func (w *world) write(id int, off int, data []byte) {
	w.t.Helper()
	at := slices.IndexFunc(w.m.rows, func(r row) bool { return r.id == id })
	if code := w.s.Write(id, off, data); code != api.OK || at < 0 {
		w.t.Fatalf("a write to %d: %d", id, code)
	}
	copy(w.m.rows[at].data[off:], data)
}

// root enters a root on all sides.
func (w *world) root(x api.Cap, rights int) {
	w.t.Helper()
	if _, code := w.c.Root(x, rights); code != api.OK || w.q.Add(x.Obj) != api.OK {
		w.t.Fatalf("a root %v: %d", x, code)
	}
	w.m.enter(live{is: x, rights: rights, parent: -1})
}

// child enters a child on all sides.
func (w *world) child(above api.Cap, x api.Cap, rights int) {
	w.t.Helper()
	n := w.m.number(above)
	if _, code := w.c.Child(n, x, rights); code != api.OK || w.q.Add(x.Obj) != api.OK {
		w.t.Fatalf("a child %v of %v: %d", x, above, code)
	}
	w.m.enter(live{is: x, rights: rights, parent: n})
}

// holds holds all three against the model, and against each other: they fit.
func (w *world) holds(what string) {
	w.t.Helper()
	w.holdsNumbers(what)
	w.holdsLists(what)
	w.holdsRows(what)
}

// holdsNumbers looks at each number of the catalogue.
func (w *world) holdsNumbers(what string) {
	w.t.Helper()
	for n, want := range w.m.tokens {
		token, there := w.c.At(n)
		if there != want.there || there && token != (api.Token{Cap: want.is, Rights: want.rights, Parent: want.parent}) {
			w.t.Fatalf("P15.3: %s: number %d: %v, %v, want %v", what, n, token, there, want)
		}
		if found, is := w.c.Find(want.is); want.there && (!is || found != n) {
			w.t.Fatalf("P15.3: %s: %v is found at %d, %v, want %d", what, want.is, found, is, n)
		}
	}
}

// holdsLists looks at each object's tokens, and at how many are counted.
func (w *world) holdsLists(what string) {
	w.t.Helper()
	objects := w.m.objects()
	if got := w.q.Objects(); !slices.Equal(got, objects) || w.q.All() != w.m.count() || w.c.Count() != w.m.count() {
		w.t.Fatalf("P15.3: %s: counted for %v, %d together, %d there, want %v, %d", what, got, w.q.All(), w.c.Count(), objects, w.m.count())
	}
	for _, obj := range objects {
		list := w.c.Of(obj)
		if !slices.Equal(list, w.m.list(obj)) || w.q.Of(obj) != len(list) {
			w.t.Fatalf("P15.3: %s: object %d: %v, %d counted, want %v", what, obj, list, w.q.Of(obj), w.m.list(obj))
		}
		if _, there := w.s.Size(obj); !there {
			w.t.Fatalf("P15.3: %s: object %d has tokens and is not there", what, obj)
		}
	}
}

// holdsRows looks at the objects and their bytes.
func (w *world) holdsRows(what string) {
	w.t.Helper()
	var ids []int
	for _, r := range w.m.rows {
		ids = append(ids, r.id)
		if size, _ := w.s.Size(r.id); size != len(r.data) {
			w.t.Fatalf("P15.3: %s: object %d has the size %d, want %d", what, r.id, size, len(r.data))
		}
		for off := 0; off < len(r.data); off += api.MaxMove {
			want := r.data[off:min(off+api.MaxMove, len(r.data))]
			if got, code := w.s.Read(r.id, off, len(want)); code != api.OK || !slices.Equal(got, want) {
				w.t.Fatalf("P15.3: %s: object %d at %d: %v, %d, want %v", what, r.id, off, got, code, want)
			}
		}
	}
	if got := w.s.Ids(); !slices.Equal(got, ids) || w.s.Free() != w.m.free() || w.s.Next() != w.m.next {
		w.t.Fatalf("P15.3: %s: the objects %v, %d pages free, next %d, want %v, %d, %d", what, got, w.s.Free(), w.s.Next(), ids, w.m.free(), w.m.next)
	}
}

// answered holds an answer against the model's, and looks at what all answers have in common.
func (w *world) answered(what string, x api.Cap, got []api.Cap, code api.Errno, want []api.Cap, wanted api.Errno) {
	w.t.Helper()
	if code != wanted || !slices.Equal(got, want) {
		w.t.Fatalf("%s(%v): %v, %d, want %v, %d", what, x, got, code, want, wanted)
	}
	w.holds(what)
	if _, there := w.c.Find(x); code != api.ErrRights && there {
		w.t.Fatalf("P15.3: behind %s(%v) it is there", what, x)
	}
	if code == api.OK && !slices.Contains(got, x) {
		w.t.Fatalf("P15.3: %s(%v): %v", what, x, got)
	}
}

// token does one Token on both.
func (w *world) token(x api.Cap) ([]api.Cap, api.Errno) {
	w.t.Helper()
	got, code := revoke.Token(w.c, w.q, w.s, x)
	want, wanted := w.m.token(x)
	w.answered("P15.1: Token", x, got, code, want, wanted)
	return got, code
}

// object does one Object on both.
func (w *world) object(x api.Cap) ([]api.Cap, api.Errno) {
	w.t.Helper()
	got, code := revoke.Object(w.c, w.q, w.s, x)
	want, wanted := w.m.object(x)
	w.answered("P15.2: Object", x, got, code, want, wanted)
	return got, code
}

// call: Token or Object, done on both sides.
type call func(w *world, x api.Cap) ([]api.Cap, api.Errno)

// gone: a call that must take these away, said by the chapter.
func (w *world) gone(do call, x api.Cap, want ...api.Cap) {
	w.t.Helper()
	if got, code := do(w, x); code != api.OK || !slices.Equal(got, want) {
		w.t.Errorf("%v: %v, %d, want %v", x, got, code, want)
	}
}

// refused: a call that must be refused.
func (w *world) refused(do call, x api.Cap, want api.Errno) {
	w.t.Helper()
	if got, code := do(w, x); code != want || len(got) != 0 {
		w.t.Errorf("%v: %v, %d, want %d", x, got, code, want)
	}
}

var (
	token  call = (*world).token
	object call = (*world).object
)

// example gives the world of the chapter's examples. (Its {1, 9} has Derive, as Read is no part of {1, 5}'s rights.)
func example(t *testing.T) *world {
	t.Helper()
	w := made(t, wideOpen)
	w.create(70)
	w.create(10)
	w.root(of(1, 3), api.All)
	w.child(of(1, 3), of(1, 5), api.Revoke+api.Derive)
	w.child(of(1, 5), of(1, 9), api.Derive)
	w.child(of(1, 3), of(1, 7), api.Destroy)
	w.root(of(2, 3), api.All)
	w.holds("the example")
	return w
}

// P15.1, P15.2: the chapter's examples.
func TestExamples(t *testing.T) {
	w := example(t)
	w.refused(token, of(1, 9), api.ErrRights)
	w.refused(token, of(1, 4), api.ErrCap)
	w.gone(token, of(1, 5), of(1, 5), of(1, 9))
	if _, there := w.s.Size(1); !there || w.q.Of(1) != 2 {
		t.Errorf("P15.1: object 1 there: %v, %d counted", there, w.q.Of(1))
	}
	w.refused(token, of(1, 5), api.ErrCap)
	w = example(t)
	w.refused(object, of(1, 5), api.ErrRights)
	w.gone(object, of(1, 7), of(1, 3), of(1, 5), of(1, 9), of(1, 7))
	if _, there := w.s.Size(1); there || w.q.All() != 1 {
		t.Errorf("P15.2: object 1 there: %v, %d counted", there, w.q.All())
	}
	w.gone(token, of(2, 3), of(2, 3))
	if _, there := w.s.Size(2); there {
		t.Error("P15.1: object 2 is there")
	}
}

// P15.1, P15.2: a token of each rights, as a root and as a child; the one right that each call asks for, and no other.
func TestEveryRights(t *testing.T) {
	for rights := 1; rights <= 31; rights++ {
		for _, c := range []struct {
			do    call
			right int
		}{{token, api.Revoke}, {object, api.Destroy}} {
			wanted := api.ErrRights
			if rights&c.right != 0 {
				wanted = api.OK
			}
			w := made(t, wideOpen)
			w.create(65)
			w.root(of(1, 1), rights)
			w.child(of(1, 1), of(1, 2), rights)
			if _, code := c.do(w, of(1, 1)); code != wanted {
				t.Errorf("a root of rights %d, the right %d: %d, want %d", rights, c.right, code, wanted)
			}
			w = made(t, wideOpen)
			w.create(65)
			w.root(of(1, 1), api.All)
			w.child(of(1, 1), of(1, 2), rights)
			w.child(of(1, 2), of(1, 3), rights)
			if _, code := c.do(w, of(1, 2)); code != wanted {
				t.Errorf("a child of rights %d, the right %d: %d, want %d", rights, c.right, code, wanted)
			}
		}
	}
}

// P15.1, P15.2: a capability is the object and both halves of the word; near ones are not there.
func TestNearCapabilities(t *testing.T) {
	w := made(t, bounds{room: 8, knob: 0, each: 8, all: 8, objects: 4, pages: 4})
	w.create(1)
	w.create(1)
	w.create(1)
	is := api.Cap{Obj: 1, Pass: api.Word{Hi: 2, Lo: 1}}
	other := api.Cap{Obj: 2, Pass: api.Word{Hi: 5, Lo: 6}}
	w.root(is, api.All)
	w.root(other, api.All)
	near := []api.Cap{{}, {Obj: 1}, {Obj: 3}, {Obj: 1, Pass: api.Word{Hi: 2}}, {Obj: 1, Pass: api.Word{Lo: 1}}, {Obj: 1, Pass: api.Word{Hi: 1, Lo: 2}}, {Obj: 2, Pass: is.Pass}, {Obj: 3, Pass: is.Pass}, {Obj: -1, Pass: is.Pass}, {Obj: 1, Pass: other.Pass}, {Obj: math.MinInt}, {Obj: math.MaxInt, Pass: api.Word{Hi: math.MaxUint64, Lo: math.MaxUint64}}}
	for _, x := range near {
		w.refused(token, x, api.ErrCap)
		w.refused(object, x, api.ErrCap)
	}
	w.gone(token, is, is)
	w.gone(object, other, other)
	if ids := w.s.Ids(); !slices.Equal(ids, []int{3}) {
		t.Errorf("P15.3: an object without tokens: %v", ids)
	}
}

// P15.1, P15.2: the zero word, and words and numbers at their greatest, are as others.
func TestEnds(t *testing.T) {
	w := made(t, wideOpen)
	w.create(64)
	w.s.SetNext(api.MaxId)
	w.m.next = api.MaxId
	w.create(128)
	greatest := api.Cap{Obj: api.MaxId, Pass: api.Word{Hi: math.MaxUint64, Lo: math.MaxUint64}}
	w.root(of(1, 0), api.All)
	w.root(greatest, api.All)
	w.child(greatest, of(api.MaxId, 0), api.Destroy)
	w.child(of(1, 0), of(1, 1), api.Revoke)
	w.gone(token, of(1, 1), of(1, 1))
	w.gone(object, of(api.MaxId, 0), greatest, of(api.MaxId, 0))
	w.gone(token, of(1, 0), of(1, 0))
	if w.s.Next() != api.MaxId+1 || w.s.May(0) != api.ErrFull {
		t.Errorf("P15.3: the next number: %d, %d", w.s.Next(), w.s.May(0))
	}
}

// parents tells every tree of so many nodes, by the place of each one's parent among those ahead of it.
func parents(many int) [][]int {
	out := [][]int{{-1}}
	for node := 1; node < many; node++ {
		var longer [][]int
		for _, tree := range out {
			for above := range node {
				longer = append(longer, append(slices.Clone(tree), above))
			}
		}
		out = longer
	}
	return out
}

// grown gives a world with three objects, of which the middle one has the tree; the others' tokens come in between.
func grown(t *testing.T, tree []int) *world {
	t.Helper()
	w := made(t, bounds{room: 24, knob: 3, each: 24, all: 24, objects: 4, pages: 12})
	for range 3 {
		w.create(100)
	}
	w.root(of(1, 0), api.All)
	w.root(of(2, 0), api.All)
	for node, above := range tree {
		if node > 0 {
			w.child(of(2, uint64(above)), of(2, uint64(node)), api.All)
		}
		w.child(of(1, 0), of(1, uint64(node+1)), api.All)
	}
	w.root(of(3, 0), api.Revoke)
	return w
}

// P15.1 to P15.3: every tree of up to five tokens, each of its tokens taken, then each of those.
func TestEveryTree(t *testing.T) {
	for many := 1; many <= 5; many++ {
		for _, tree := range parents(many) {
			for first := range many {
				grown(t, tree).object(of(2, uint64(first)))
				for second := range many {
					w := grown(t, tree)
					w.token(of(2, uint64(first)))
					w.token(of(2, uint64(second)))
					w = grown(t, tree)
					w.token(of(2, uint64(first)))
					w.object(of(2, uint64(second)))
				}
			}
		}
	}
}

// P15.1: of siblings each place in the row is taken alike; the others' order stays.
func TestSiblings(t *testing.T) {
	for at := range uint64(7) {
		w := made(t, wideOpen)
		w.create(3)
		w.root(of(1, 100), api.All)
		for n := range uint64(7) {
			w.child(of(1, 100), of(1, n), api.Revoke)
		}
		w.gone(token, of(1, at), of(1, at))
		w.child(of(1, 100), of(1, 50), api.Revoke)
		w.gone(token, of(1, (at+1)%7), of(1, (at+1)%7))
		w.gone(token, of(1, 50), of(1, 50))
		w.holds("siblings")
	}
}

// P15.2: the object goes by whichever of its tokens has Destroy, however deep, though those above it lack other rights.
func TestObjectFromDeep(t *testing.T) {
	for deep := range 8 {
		w := made(t, wideOpen)
		w.create(200)
		w.create(60)
		w.root(of(2, 0), api.All)
		w.root(of(1, 0), api.Destroy)
		for n := range uint64(7) {
			w.child(of(1, n), of(1, n+1), api.Destroy)
		}
		var all []api.Cap
		for n := range uint64(8) {
			all = append(all, of(1, n))
		}
		w.refused(token, of(1, uint64(deep)), api.ErrRights)
		w.gone(object, of(1, uint64(deep)), all...)
		w.refused(object, of(1, uint64(deep)), api.ErrCap)
	}
}

// filled gives a world whose one object has as many tokens as may be; each one's parent is told.
func filled(t *testing.T, above func(n uint64) uint64) *world {
	t.Helper()
	w := made(t, bounds{room: api.MaxEntries, knob: 64, each: api.MaxQuota, all: api.MaxEntries, objects: 1, pages: 64})
	w.create(api.MaxBytes)
	w.root(of(1, 0), api.All)
	for n := uint64(1); n < api.MaxEntries; n++ {
		w.child(of(1, above(n)), of(1, n), api.All)
	}
	return w
}

// P15.1, P15.2: a chain and a star of as many tokens as may be.
func TestLargest(t *testing.T) {
	chain := func(n uint64) uint64 { return n - 1 }
	star := func(uint64) uint64 { return 0 }
	for _, above := range []func(uint64) uint64{chain, star} {
		for _, at := range []uint64{0, 1, 128, 255} {
			w := filled(t, above)
			w.token(of(1, at))
			w.token(of(1, 255))
			w.token(of(1, 0))
			if w.s.Free() != 64 || w.q.All() != 0 {
				t.Errorf("P15.1: %d pages free, %d counted", w.s.Free(), w.q.All())
			}
			w = filled(t, above)
			if got, _ := w.object(of(1, at)); len(got) != 256 {
				t.Errorf("P15.2: %d gone", len(got))
			}
		}
	}
}

// P15.1: what was taken makes room again: in the catalogue, in the quota, in the store; and a word that comes again is a new token.
func TestRoomAgain(t *testing.T) {
	w := made(t, bounds{room: 3, knob: 0, each: 2, all: 3, objects: 1, pages: 2})
	for round := range 40 {
		obj := w.create(128)
		w.root(of(obj, 1), api.All)
		w.child(of(obj, 1), of(obj, 2), api.Revoke)
		if w.q.May(obj) != api.ErrQuota || w.s.May(0) != api.ErrFull {
			t.Fatalf("round %d: %d, %d", round, w.q.May(obj), w.s.May(0))
		}
		w.gone(token, of(obj, 2), of(obj, 2))
		w.child(of(obj, 1), of(obj, 2), api.Read)
		w.refused(token, of(obj, 2), api.ErrRights)
		w.refused(object, of(obj, 2), api.ErrRights)
		if round%2 == 0 {
			w.gone(token, of(obj, 1), of(obj, 1), of(obj, 2))
		} else {
			w.gone(object, of(obj, 1), of(obj, 1), of(obj, 2))
		}
		w.refused(token, of(obj, 1), api.ErrCap)
		if w.s.Free() != 2 || w.c.Count() != 0 || w.q.All() != 0 {
			t.Fatalf("round %d: %d pages free, %d there, %d counted", round, w.s.Free(), w.c.Count(), w.q.All())
		}
	}
}

// P15.3: a refusal, again and again, leaves all as it was; what comes behind it is as if it had not been.
func TestRefusalsLeaveNothing(t *testing.T) {
	w := example(t)
	for range 50 {
		w.refused(token, of(1, 9), api.ErrRights)
		w.refused(token, of(1, 7), api.ErrRights)
		w.refused(object, of(1, 5), api.ErrRights)
		w.refused(object, of(1, 9), api.ErrRights)
		w.refused(token, of(3, 3), api.ErrCap)
		w.refused(object, of(2, 5), api.ErrCap)
	}
	w.gone(token, of(1, 3), of(1, 3), of(1, 5), of(1, 9), of(1, 7))
	w.gone(object, of(2, 3), of(2, 3))
}

// P15.4: what is answered is written over, its spare room too: nothing else changes, and no answer is another's memory.
func TestNewMemory(t *testing.T) {
	for _, do := range []call{token, object} {
		w := made(t, wideOpen)
		for range 3 {
			obj := w.create(64)
			w.root(of(obj, 1), api.All)
			w.child(of(obj, 1), of(obj, 2), api.All)
			w.child(of(obj, 2), of(obj, 3), api.All)
		}
		first, _ := do(w, of(1, 1))
		kept := slices.Clone(first)
		second, _ := do(w, of(2, 1))
		for _, list := range [][]api.Cap{second, second[:cap(second)]} {
			for at := range list {
				list[at] = of(3, 2)
			}
		}
		w.holds("an answer was written over")
		if !slices.Equal(first, kept) {
			t.Errorf("P15.4: %v has become %v", kept, first)
		}
		w.gone(do, of(3, 1), of(3, 1), of(3, 2), of(3, 3))
	}
}

// P15.3: the same past gives the same answers; the knob shows nowhere; two worlds share nothing.
func TestTwice(t *testing.T) {
	for _, knob := range []int{0, 1, 7} {
		other := wideOpen
		other.knob = knob
		a, b := made(t, wideOpen), made(t, other)
		for _, w := range []*world{a, b} {
			w.create(64)
			w.root(of(1, 1), api.All)
			w.child(of(1, 1), of(1, 2), api.All)
			w.child(of(1, 2), of(1, 3), api.All)
		}
		for _, word := range []uint64{3, 2, 1} {
			one, _ := a.token(of(1, word))
			b.holds("the other was used")
			two, _ := b.token(of(1, word))
			a.holds("the other was used")
			if !slices.Equal(one, two) {
				t.Errorf("P15.3: knob %d: %v, %v", knob, one, two)
			}
		}
	}
}

// P15.1 to P15.3: long pasts by chance, against the model.
func TestByChance(t *testing.T) {
	chance := rand.New(rand.NewSource(15))
	for range 200 {
		room := 1 + chance.Intn(24)
		b := bounds{room: room, knob: chance.Intn(65), each: 1 + chance.Intn(12), all: 1 + chance.Intn(room), objects: 1 + chance.Intn(5), pages: 1 + chance.Intn(12)}
		w := made(t, b)
		for range 150 {
			w.step(chance)
		}
	}
}

// step does one thing by chance.
func (w *world) step(chance *rand.Rand) {
	w.t.Helper()
	x := w.some(chance)
	switch kind := chance.Intn(20); {
	case kind < 3:
		if size := chance.Intn(200); w.s.May(size) == api.OK {
			w.create(size)
		}
	case kind < 6:
		rights := 1 + chance.Intn(31) | chance.Intn(2)*31
		if _, there := w.s.Size(x.Obj); there && w.c.In(x.Obj) == 0 && w.q.May(x.Obj) == api.OK {
			w.root(x, rights)
		}
	case kind < 15:
		w.grow(chance, x)
	case kind < 17:
		if size, _ := w.s.Size(x.Obj); size > 0 {
			w.write(x.Obj, chance.Intn(size), []byte{byte(chance.Intn(256))})
		}
	case kind < 19:
		w.token(x)
	default:
		w.object(x)
	}
}

// some gives a capability: most often one that is there, else one near the objects that were made.
func (w *world) some(chance *rand.Rand) api.Cap {
	if l := w.m.tokens[chance.Intn(len(w.m.tokens))]; l.there && chance.Intn(5) > 0 {
		return l.is
	}
	return of(w.s.Next()-1-chance.Intn(5), uint64(chance.Intn(6)))
}

// grow makes a child of a token, if it may have one.
func (w *world) grow(chance *rand.Rand, above api.Cap) {
	w.t.Helper()
	n := w.m.number(above)
	made := of(above.Obj, uint64(chance.Intn(30)))
	if n < 0 || w.m.number(made) >= 0 || w.q.May(above.Obj) != api.OK {
		return
	}
	rights := w.m.tokens[n].rights
	if fewer := rights & (1 + chance.Intn(31)); fewer != 0 && chance.Intn(3) == 0 {
		rights = fewer
	}
	w.child(above, made, rights)
}

// DOC.md's rule 1: where the three don't fit nothing is promised of the answer, but the calls still end.
func TestUnfit(t *testing.T) {
	for _, call := range []func(*catalogue.Catalogue, *quota.Quota, *store.Store, api.Cap) ([]api.Cap, api.Errno){revoke.Token, revoke.Object} {
		for _, obj := range []int{1, 0, -1, math.MinInt, math.MaxInt} {
			w := made(t, wideOpen)
			w.c.Root(of(obj, 1), api.All)
			w.c.Child(0, of(obj, 2), api.All)
			call(w.c, w.q, w.s, of(obj, 2))
			call(w.c, w.q, w.s, of(obj, 1))
		}
	}
}
