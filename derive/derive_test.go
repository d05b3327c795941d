package derive_test

import (
	"math"
	"math/rand"
	"slices"
	"testing"

	"sesame/api"
	"sesame/catalogue"
	"sesame/derive"
	"sesame/draws"
	"sesame/quota"
	"sesame/wide"
)

// words gives the words of small numbers.
func words(numbers ...uint64) []api.Word {
	out := make([]api.Word, 0, len(numbers))
	for _, n := range numbers {
		out = append(out, api.Word{Lo: n})
	}
	return out
}

// of gives a capability with a small word.
func of(obj int, word uint64) api.Cap { return api.Cap{Obj: obj, Pass: api.Word{Lo: word}} }

// live: a token of the model, at its number there.
type live struct {
	there  bool
	is     api.Cap
	rights int
	parent int // a number; -1: none
	since  int // tokens that came later have more
}

// model: what all three are to hold, in plain lists, told from the promises alone.
type model struct {
	each, all, room int
	words           []api.Word
	taken           int
	tokens          []live // by number
	clock           int
}

// number gives the place of a capability, or -1.
func (m *model) number(x api.Cap) int {
	return slices.IndexFunc(m.tokens, func(l live) bool { return l.there && l.is == x })
}

// many tells how many tokens are there that the question holds for.
func (m *model) many(is func(live) bool) int {
	n := 0
	for _, l := range m.tokens {
		if l.there && is(l) {
			n++
		}
	}
	return n
}

// in tells how many tokens an object has.
func (m *model) in(obj int) int { return m.many(func(l live) bool { return l.is.Obj == obj }) }

// count tells how many tokens there are.
func (m *model) count() int { return m.many(func(live) bool { return true }) }

// full tells the error of the bounds.
func (m *model) full(obj int) api.Errno {
	if m.in(obj) >= m.each {
		return api.ErrQuota
	}
	if m.count() >= m.all {
		return api.ErrEntry
	}
	return api.OK
}

// enter puts a token at the lowest number that is free.
func (m *model) enter(l live) {
	l.there, l.since = true, m.clock
	m.clock++
	free := slices.IndexFunc(m.tokens, func(l live) bool { return !l.there })
	if free < 0 {
		m.tokens = append(m.tokens, l)
		return
	}
	m.tokens[free] = l
}

// root: what Root is to answer.
func (m *model) root(obj int) (api.Cap, api.Errno) {
	if m.in(obj) > 0 {
		return api.Cap{}, api.ErrThere
	}
	if code := m.full(obj); code != api.OK {
		return api.Cap{}, code
	}
	if m.taken == len(m.words) {
		return api.Cap{}, api.ErrDraws
	}
	made := api.Cap{Obj: obj, Pass: m.words[m.taken]}
	m.taken++
	m.enter(live{is: made, rights: 31, parent: -1})
	return made, api.OK
}

// child: what Child is to answer.
func (m *model) child(parent api.Cap, rights int) (api.Cap, api.Errno) {
	n := m.number(parent)
	if n < 0 {
		return api.Cap{}, api.ErrCap
	}
	above := m.tokens[n].rights
	if above&4 == 0 || rights < 1 || rights > 31 || rights&^above != 0 {
		return api.Cap{}, api.ErrRights
	}
	if code := m.full(parent.Obj); code != api.OK {
		return api.Cap{}, code
	}
	window := m.words[m.taken:]
	window = window[:min(9, len(window))]
	at := slices.IndexFunc(window, func(w api.Word) bool { return m.number(api.Cap{Obj: parent.Obj, Pass: w}) < 0 })
	if at < 0 {
		m.taken += len(window)
		if len(window) == 9 {
			return api.Cap{}, api.ErrTwin
		}
		return api.Cap{}, api.ErrDraws
	}
	m.taken += at + 1
	made := api.Cap{Obj: parent.Obj, Pass: window[at]}
	m.enter(live{is: made, rights: rights, parent: n})
	return made, api.OK
}

// below gives the numbers of a subtree: each parent ahead of its children, those by age.
func (m *model) below(n int) []int {
	out := []int{n}
	var children []int
	for at, l := range m.tokens {
		if l.there && l.parent == n {
			children = append(children, at)
		}
	}
	slices.SortFunc(children, func(a, b int) int { return m.tokens[a].since - m.tokens[b].since })
	for _, child := range children {
		out = append(out, m.below(child)...)
	}
	return out
}

// list tells an object's tokens as the catalogue's Of is to.
func (m *model) list(obj int) []api.Token {
	root := slices.IndexFunc(m.tokens, func(l live) bool { return l.there && l.is.Obj == obj && l.parent == -1 })
	if root < 0 {
		return nil
	}
	numbers := m.below(root)
	var out []api.Token
	for _, n := range numbers {
		l := m.tokens[n]
		out = append(out, api.Token{Cap: l.is, Rights: l.rights, Parent: slices.Index(numbers, l.parent)})
	}
	return out
}

// objects tells which objects have tokens, rising.
func (m *model) objects() []int {
	var out []int
	for _, l := range m.tokens {
		if l.there {
			out = append(out, l.is.Obj)
		}
	}
	slices.Sort(out)
	return slices.Compact(out)
}

// world: the three that a call is given, and the model of them.
type world struct {
	t *testing.T
	d *draws.Draws
	c *catalogue.Catalogue
	q *quota.Quota
	m *model
}

// bounds: those of a world.
type bounds struct {
	width, room, knob, each, all int
}

// made gives an empty world.
func made(t *testing.T, b bounds, l []api.Word) *world {
	t.Helper()
	d, first := draws.New(l, b.width)
	c, second := catalogue.New(b.room, b.knob)
	q, third := quota.New(b.each, b.all)
	if first != api.OK || second != api.OK || third != api.OK {
		t.Fatalf("the layers below: %d, %d, %d", first, second, third)
	}
	m := &model{each: b.each, all: b.all, room: b.room}
	for _, w := range l {
		m.words = append(m.words, wide.Cut(w, b.width))
	}
	return &world{t, d, c, q, m}
}

// four gives the world of the chapter's examples.
func four(t *testing.T, numbers ...uint64) *world {
	t.Helper()
	return made(t, bounds{width: 4, room: 4, knob: 64, each: 3, all: 4}, words(numbers...))
}

// holds holds all three against the model, and against each other: they fit.
func (w *world) holds(what string) {
	w.t.Helper()
	if w.d.Taken() != w.m.taken || w.d.Left() != len(w.m.words)-w.m.taken {
		w.t.Fatalf("P14.3: %s: %d taken, %d left, want %d of %d", what, w.d.Taken(), w.d.Left(), w.m.taken, len(w.m.words))
	}
	for n := range w.m.room {
		var want live
		if n < len(w.m.tokens) {
			want = w.m.tokens[n]
		}
		token, there := w.c.At(n)
		if there != want.there || there && token != (api.Token{Cap: want.is, Rights: want.rights, Parent: want.parent}) {
			w.t.Fatalf("P14.3: %s: number %d: %v, %v, want %v", what, n, token, there, want)
		}
	}
	objects := w.m.objects()
	if got := w.q.Objects(); !slices.Equal(got, objects) || w.q.All() != w.m.count() || w.c.Count() != w.m.count() {
		w.t.Fatalf("P14.3: %s: counted for %v, %d together, %d there, want %v, %d", what, got, w.q.All(), w.c.Count(), objects, w.m.count())
	}
	for _, obj := range objects {
		list := w.c.Of(obj)
		if !slices.Equal(list, w.m.list(obj)) || w.q.Of(obj) != len(list) {
			w.t.Fatalf("P14.3: %s: object %d: %v, %d counted, want %v", what, obj, list, w.q.Of(obj), w.m.list(obj))
		}
		w.follows(what, list)
	}
}

// follows looks at what the promises say of any object's tokens.
func (w *world) follows(what string, list []api.Token) {
	w.t.Helper()
	for at, token := range list {
		for other := range at {
			if list[other].Cap == token.Cap {
				w.t.Fatalf("P14.3: %s: the word %v twice", what, token.Cap)
			}
		}
		for above := token.Parent; above >= 0; above = list[above].Parent {
			if token.Rights&^list[above].Rights != 0 {
				w.t.Fatalf("P14.3: %s: %v has more rights than %v above it", what, token, list[above])
			}
		}
	}
}

// root does one Root on both.
func (w *world) root(obj int) (api.Cap, api.Errno) {
	w.t.Helper()
	got, code := derive.Root(w.d, w.c, w.q, obj)
	want, wanted := w.m.root(obj)
	if got != want || code != wanted {
		w.t.Fatalf("P14.1: Root(%d): %v, %d, want %v, %d", obj, got, code, want, wanted)
	}
	w.holds("Root")
	return got, code
}

// child does one Child on both.
func (w *world) child(parent api.Cap, rights int) (api.Cap, api.Errno) {
	w.t.Helper()
	got, code := derive.Child(w.d, w.c, w.q, parent, rights)
	want, wanted := w.m.child(parent, rights)
	if got != want || code != wanted {
		w.t.Fatalf("P14.2: Child(%v, %d): %v, %d, want %v, %d", parent, rights, got, code, want, wanted)
	}
	w.holds("Child")
	return got, code
}

// drop takes a subtree away on all sides, so that they still fit.
func (w *world) drop(n int) {
	w.t.Helper()
	token, there := w.c.At(n)
	if !there {
		return
	}
	gone, _ := w.c.Drop(n)
	w.q.Sub(token.Cap.Obj, len(gone))
	for _, at := range w.m.below(n) {
		w.m.tokens[at] = live{}
	}
	w.holds("behind a drop")
}

// skip sets how many draws are taken.
func (w *world) skip(n int) {
	w.d.Skip(n)
	w.m.taken = n
}

// wantRoot: one Root, and what it must answer and leave, said by the chapter.
func (w *world) wantRoot(obj int, want api.Cap, wanted api.Errno, taken int) {
	w.t.Helper()
	if got, code := w.root(obj); got != want || code != wanted || w.d.Taken() != taken {
		w.t.Errorf("P14.1: Root(%d): %v, %d, %d taken, want %v, %d, %d", obj, got, code, w.d.Taken(), want, wanted, taken)
	}
}

// wantChild: one Child, likewise.
func (w *world) wantChild(parent api.Cap, rights int, want api.Cap, wanted api.Errno, taken int) {
	w.t.Helper()
	if got, code := w.child(parent, rights); got != want || code != wanted || w.d.Taken() != taken {
		w.t.Errorf("P14.2: Child(%v, %d): %v, %d, %d taken, want %v, %d, %d", parent, rights, got, code, w.d.Taken(), want, wanted, taken)
	}
}

// P14.1, P14.2: the chapter's examples 1 to 3.
func TestExamples(t *testing.T) {
	none := api.Cap{}
	w := four(t, 3, 3, 5, 3, 5, 9, 3)
	w.wantRoot(1, of(1, 3), api.OK, 1)
	w.wantRoot(1, none, api.ErrThere, 1)
	w.wantChild(of(1, 4), 1, none, api.ErrCap, 1)
	w.wantChild(of(1, 3), 0, none, api.ErrRights, 1)
	w.wantChild(of(1, 3), 32, none, api.ErrRights, 1)
	w.wantChild(of(1, 3), api.Read+api.Derive, of(1, 5), api.OK, 3)
	w.wantChild(of(1, 5), api.Write, none, api.ErrRights, 3)
	w.wantChild(of(1, 5), api.Read, of(1, 9), api.OK, 6)
	w.wantChild(of(1, 9), api.Read, none, api.ErrRights, 6)
	w.wantChild(of(1, 3), api.Read, none, api.ErrQuota, 6)
	w.skip(7)
	w.wantRoot(2, none, api.ErrDraws, 7)
	w.skip(6)
	w.wantRoot(2, of(2, 3), api.OK, 7)
	w.wantRoot(3, none, api.ErrEntry, 7)
	want := []api.Token{{Cap: of(1, 3), Rights: api.All, Parent: -1}, {Cap: of(1, 5), Rights: 5, Parent: 0}, {Cap: of(1, 9), Rights: 1, Parent: 1}}
	if got := w.c.Of(1); !slices.Equal(got, want) {
		t.Errorf("P14.2: the tokens: %v, want %v", got, want)
	}
	if got := w.c.Of(2); !slices.Equal(got, []api.Token{{Cap: of(2, 3), Rights: api.All, Parent: -1}}) {
		t.Errorf("P14.1: the tokens: %v", got)
	}
}

// P14.2: the chapter's example 4, and as many twins as there may be, more and fewer.
func TestTwins(t *testing.T) {
	for many := range 20 {
		w := four(t, slices.Repeat([]uint64{3}, 1+many)...)
		w.root(1)
		wanted, taken := api.ErrDraws, 1+many
		if many >= 9 {
			wanted, taken = api.ErrTwin, 10
		}
		w.wantChild(of(1, 3), api.Read, api.Cap{}, wanted, taken)
		for w.d.Left() > 0 {
			w.child(of(1, 3), api.Read)
		}
		w = four(t, append(slices.Repeat([]uint64{3}, 1+many), 5)...)
		w.root(1)
		if many <= 8 {
			w.wantChild(of(1, 3), api.Read, of(1, 5), api.OK, many+2)
			continue
		}
		w.wantChild(of(1, 3), api.Read, api.Cap{}, api.ErrTwin, 10)
	}
}

// P14.1: a root takes one draw, whatever the words of other objects are, and of a token that is gone.
func TestRootDrawsOne(t *testing.T) {
	w := made(t, bounds{width: 4, room: 8, knob: 0, each: 1, all: 8}, words(3, 3, 3, 19, 3, 0, 0, 0))
	for at, obj := range []int{1, 2, math.MinInt, math.MaxInt, 0} {
		w.wantRoot(obj, of(obj, 3), api.OK, at+1)
	}
	w.wantRoot(-1, of(-1, 0), api.OK, 6)
	w.drop(0)
	w.wantRoot(1, of(1, 0), api.OK, 7)
	w.drop(0)
	w.wantRoot(1, of(1, 0), api.OK, 8)
}

// P14.1: which error comes first, for each set of those that apply.
func TestRootOrder(t *testing.T) {
	for set := range 16 {
		there, quotaFull, allFull, dry := set&1 != 0, set&2 != 0, set&4 != 0, set&8 != 0
		if quotaFull && !there {
			continue // an object without tokens has its whole quota
		}
		b := bounds{width: 8, room: 8, knob: 64, each: 2, all: 4}
		w := made(t, b, words(1, 2, 3, 4, 5))
		if there {
			w.root(1)
		}
		if quotaFull {
			w.child(of(1, 1), api.All)
		}
		for other := 2; allFull && w.c.Count() < b.all; other++ {
			w.root(other)
		}
		if dry {
			w.skip(5)
		}
		wanted := api.OK
		switch {
		case there:
			wanted = api.ErrThere
		case allFull:
			wanted = api.ErrEntry
		case dry:
			wanted = api.ErrDraws
		}
		if _, code := w.root(1); code != wanted {
			t.Errorf("P14.1: there %v, quota %v, full %v, no draws %v: %d, want %d", there, quotaFull, allFull, dry, code, wanted)
		}
	}
}

// P14.2: which error comes first, for each set of those that apply.
func TestChildOrder(t *testing.T) {
	for set := range 64 {
		gone, weak, much, quotaFull, allFull := set&1 != 0, set&2 != 0, set&4 != 0, set&8 != 0, set&16 != 0
		dry := set&32 != 0
		b := bounds{width: 8, room: 8, knob: 64, each: 4, all: 6}
		w := made(t, b, slices.Concat(words(1, 2, 3, 4, 5, 6), slices.Repeat(words(1), 12)))
		w.root(1)
		w.child(of(1, 1), api.Read+api.Derive)
		w.child(of(1, 1), api.Read)
		if quotaFull {
			w.child(of(1, 1), api.All)
		}
		for other := 2; allFull && w.c.Count() < b.all; other++ {
			w.root(other)
		}
		w.skip(6)
		if dry {
			w.skip(w.d.Taken() + w.d.Left())
		}
		parent, rights, wanted := of(1, 2), api.Read, api.ErrTwin
		if weak {
			parent = of(1, 3)
		}
		if much {
			rights = api.Write
		}
		if gone {
			parent.Obj = 99
		}
		switch {
		case gone:
			wanted = api.ErrCap
		case weak || much:
			wanted = api.ErrRights
		case quotaFull:
			wanted = api.ErrQuota
		case allFull:
			wanted = api.ErrEntry
		case dry:
			wanted = api.ErrDraws
		}
		if _, code := w.child(parent, rights); code != wanted {
			t.Errorf("P14.2: %06b: %d, want %d", set, code, wanted)
		}
	}
}

// P14.2: rights of every kind, out of tokens of every kind.
func TestEveryRights(t *testing.T) {
	for above := 1; above <= 31; above++ {
		for _, rights := range append(span(-33, 65), math.MinInt, math.MinInt+1, math.MaxInt, 1<<32, 1<<32+1, -1<<32+1) {
			w := made(t, bounds{width: 8, room: 3, knob: 5, each: 3, all: 3}, words(1, 2, 3))
			w.root(1)
			w.child(of(1, 1), above)
			w.child(of(1, 2), rights)
			if w.c.Count() == 3 != (above&api.Derive != 0 && rights >= 1 && rights <= 31 && rights&^above == 0) {
				t.Errorf("P14.2: rights %d out of %d: %d tokens", rights, above, w.c.Count())
			}
		}
	}
}

// span gives the numbers from one up to another, without that.
func span(from, to int) []int {
	var out []int
	for n := from; n < to; n++ {
		out = append(out, n)
	}
	return out
}

// P14.2: a parent is the whole capability: the object and both halves of the word; a word beyond the width is none.
func TestNearParents(t *testing.T) {
	w := made(t, bounds{width: 128, room: 8, knob: 0, each: 8, all: 8}, []api.Word{{Hi: 2, Lo: 1}, {Hi: 5, Lo: 6}, {Hi: 7, Lo: 8}})
	w.root(7)
	w.root(8)
	near := []api.Cap{{}, {Obj: 7}, {Obj: 7, Pass: api.Word{Hi: 2}}, {Obj: 7, Pass: api.Word{Lo: 1}}, {Obj: 7, Pass: api.Word{Hi: 1, Lo: 2}}, {Obj: 8, Pass: api.Word{Hi: 2, Lo: 1}}, {Obj: -7, Pass: api.Word{Hi: 2, Lo: 1}}, {Obj: 7, Pass: api.Word{Hi: 5, Lo: 6}}, {Obj: math.MinInt}, {Obj: math.MaxInt, Pass: api.Word{Hi: math.MaxUint64, Lo: math.MaxUint64}}}
	for _, parent := range near {
		w.wantChild(parent, api.Read, api.Cap{}, api.ErrCap, 2)
	}
	made := api.Cap{Obj: 7, Pass: api.Word{Hi: 7, Lo: 8}}
	w.wantChild(api.Cap{Obj: 7, Pass: api.Word{Hi: 2, Lo: 1}}, api.Read, made, api.OK, 3)
	small := four(t, 19, 5)
	small.wantRoot(1, of(1, 3), api.OK, 1)
	small.wantChild(of(1, 19), api.Read, api.Cap{}, api.ErrCap, 1)
}

// P14.1, P14.2: the zero word is a word as others are, the object 0 one as others.
func TestZeros(t *testing.T) {
	w := four(t, 0, 0, 1, 16)
	w.wantChild(api.Cap{}, api.Read, api.Cap{}, api.ErrCap, 0)
	w.wantRoot(0, api.Cap{}, api.OK, 1)
	w.wantRoot(0, api.Cap{}, api.ErrThere, 1)
	w.wantChild(api.Cap{}, api.All, of(0, 1), api.OK, 3)
	w.wantRoot(1, of(1, 0), api.OK, 4)
}

// P14.2: the words of this object's tokens alone count as twins, wherever these stand; of a token that is gone the word may come again.
func TestWordsOfTheObject(t *testing.T) {
	w := made(t, bounds{width: 8, room: 16, knob: 1, each: 8, all: 16}, words(1, 2, 3, 9, 9, 3, 2, 1, 4, 2, 3, 7))
	w.root(1)
	w.child(of(1, 1), api.All)
	w.child(of(1, 2), api.All)
	w.root(2)
	w.wantChild(of(1, 3), api.All, of(1, 9), api.OK, 5)
	w.wantChild(of(1, 1), api.All, of(1, 4), api.OK, 9)
	n, _ := w.c.Find(of(1, 2))
	w.drop(n)
	w.wantChild(of(1, 2), api.Read, api.Cap{}, api.ErrCap, 9)
	w.wantChild(of(1, 4), api.Read, of(1, 2), api.OK, 10)
	w.wantChild(of(1, 2), api.Read, api.Cap{}, api.ErrRights, 10)
	w.wantChild(of(2, 9), api.Write, of(2, 3), api.OK, 11)
}

// P14.2: a child is the last of its siblings; a number that was free ahead of theirs does not bring it forward.
func TestLastChild(t *testing.T) {
	w := made(t, bounds{width: 8, room: 8, knob: 64, each: 8, all: 8}, words(1, 2, 3, 4, 5, 6))
	w.root(9)
	w.root(1)
	w.child(of(1, 2), api.All)
	w.child(of(1, 2), api.Read)
	w.drop(0)
	w.child(of(1, 2), api.Write)
	w.child(of(1, 3), api.Derive)
	want := []api.Token{{Cap: of(1, 2), Rights: api.All, Parent: -1}, {Cap: of(1, 3), Rights: api.All, Parent: 0}, {Cap: of(1, 6), Rights: api.Derive, Parent: 1}, {Cap: of(1, 4), Rights: api.Read, Parent: 0}, {Cap: of(1, 5), Rights: api.Write, Parent: 0}}
	if got := w.c.Of(1); !slices.Equal(got, want) {
		t.Errorf("P14.2: %v, want %v", got, want)
	}
}

// P14.1, P14.2: the bounds at their least and at their greatest; a catalogue that has more room than the quota lets in.
func TestBounds(t *testing.T) {
	for _, b := range []bounds{{1, 1, 0, 1, 1}, {16, 256, 64, 256, 256}, {16, 256, 8, 200, 256}, {16, 256, 64, 256, 100}, {16, 2, 0, 256, 2}} {
		var l []api.Word
		for n := range uint64(300) {
			l = append(l, api.Word{Lo: n})
		}
		w := made(t, b, l)
		first, _ := w.root(1)
		most := min(b.each, b.all)
		if b.width == 1 {
			most = 1
		}
		for range most - 1 {
			if _, code := derive.Child(w.d, w.c, w.q, first, api.Read); code != api.OK {
				t.Fatalf("P14.2: %v: %d", b, code)
			}
			w.m.child(first, api.Read)
		}
		w.holds("filled")
		wanted := api.ErrQuota // it comes first where both are full
		if b.each > b.all {
			wanted = api.ErrEntry
		}
		w.wantChild(first, api.Read, api.Cap{}, wanted, most)
		if b.all > most {
			w.wantRoot(2, api.Cap{Obj: 2, Pass: l[most]}, api.OK, most+1)
			continue
		}
		w.wantRoot(2, api.Cap{}, api.ErrEntry, most)
	}
}

// P14.3: every past of four calls on a small world, with every refusal among them.
func TestEveryPast(t *testing.T) {
	var steps []func(*world)
	for obj := range 2 {
		steps = append(steps, func(w *world) { w.root(obj) })
		for word := range uint64(2) {
			for _, rights := range []int{api.Read, api.Derive + api.Read} {
				steps = append(steps, func(w *world) { w.child(of(obj, word), rights) })
			}
		}
	}
	steps = append(steps, func(w *world) { w.drop(0) }, func(w *world) { w.drop(1) })
	long := append(slices.Repeat(words(0), 3), slices.Repeat(words(1, 1, 0), 5)...)
	for _, l := range [][]api.Word{words(0, 1, 1), long} {
		for past := range len(steps) * len(steps) * len(steps) * len(steps) {
			w := made(t, bounds{width: 1, room: 3, knob: 2, each: 2, all: 3}, l)
			for range 4 {
				steps[past%len(steps)](w)
				past /= len(steps)
			}
		}
	}
}

// P14.1 to P14.3: long pasts by chance, against the model.
func TestByChance(t *testing.T) {
	chance := rand.New(rand.NewSource(14))
	for range 300 {
		var l []api.Word
		for range 150 {
			l = append(l, api.Word{Hi: chance.Uint64(), Lo: chance.Uint64()})
		}
		room := 1 + chance.Intn(20)
		w := made(t, bounds{width: 1 + chance.Intn(5), room: room, knob: chance.Intn(65), each: 1 + chance.Intn(12), all: 1 + chance.Intn(room)}, l)
		var known []api.Cap
		for range 120 {
			w.step(chance, &known)
		}
	}
}

// step does one call by chance; known are the capabilities that were ever made.
func (w *world) step(chance *rand.Rand, known *[]api.Cap) {
	w.t.Helper()
	var got api.Cap
	code := api.ErrNone
	switch kind := chance.Intn(10); {
	case kind < 2:
		got, code = w.root(chance.Intn(4) - 1)
	case kind < 8:
		parent := of(chance.Intn(4)-1, uint64(chance.Intn(8)))
		if len(*known) > 0 && chance.Intn(4) > 0 {
			parent = (*known)[chance.Intn(len(*known))]
		}
		rights := api.All
		if chance.Intn(2) == 0 {
			rights = chance.Intn(40) - 4
		}
		got, code = w.child(parent, rights)
	case kind < 9 && chance.Intn(2) == 0:
		w.drop(chance.Intn(w.m.room))
	}
	if code == api.OK {
		*known = append(*known, got)
	}
}

// P14.3: the same arguments and the same past give the same answers; the knob shows nowhere; two worlds share nothing.
func TestTwice(t *testing.T) {
	l := words(1, 1, 2, 2, 3, 1, 4, 4, 4, 5)
	for _, knob := range []int{0, 1, 7, 64} {
		a := made(t, bounds{width: 8, room: 8, knob: 64, each: 8, all: 8}, l)
		b := made(t, bounds{width: 8, room: 8, knob: knob, each: 8, all: 8}, l)
		for range 2 {
			a.root(7)
			b.root(7)
			a.child(of(7, 1), api.All)
			a.child(of(7, 2), api.Read)
			b.holds("the other was used")
			b.child(of(7, 1), api.All)
			a.holds("the other was used")
			b.child(of(7, 2), api.Read)
		}
		if !slices.Equal(a.c.Of(7), b.c.Of(7)) || a.d.Taken() != b.d.Taken() {
			t.Errorf("P14.3: %v, %v", a.c.Of(7), b.c.Of(7))
		}
	}
}

// P14.3: a refusal, again and again, leaves all as it was; what comes behind it is as if it had not been.
func TestRefusalsLeaveNothing(t *testing.T) {
	w := four(t, 3, 5, 9, 6)
	w.root(1)
	w.child(of(1, 3), api.Read)
	for range 50 {
		w.root(1)
		w.child(of(1, 9), api.Read)
		w.child(of(2, 3), api.Read)
		w.child(of(1, 5), api.Read)
		w.child(of(1, 3), -1)
		w.child(of(1, 3), 32)
	}
	w.wantChild(of(1, 3), api.All, of(1, 9), api.OK, 3)
	for range 50 {
		w.wantChild(of(1, 3), api.All, api.Cap{}, api.ErrQuota, 3)
	}
	w.wantRoot(2, of(2, 6), api.OK, 4)
	for range 50 {
		w.wantRoot(3, api.Cap{}, api.ErrEntry, 4)
	}
}
