package issue_test

import (
	"math"
	"math/rand"
	"slices"
	"testing"

	"sesame/api"
	"sesame/catalogue"
	"sesame/draws"
	"sesame/issue"
	"sesame/wide"
)

// words gives the words of small numbers.
func words(numbers ...uint64) []api.Word {
	out := make([]api.Word, 0, len(numbers))
	for _, n := range numbers {
		out = append(out, api.Word{Lo: n})
	}
	return out
}

// times gives one number so often.
func times(n uint64, many int) []api.Word { return slices.Repeat(words(n), many) }

// model: the words as they are drawn, and how many of them are taken.
type model struct {
	all   []api.Word
	taken int
}

// draw: what a call should answer, told from the words that are left, not by drawing them.
func (m *model) draw(taken []api.Word) (api.Word, api.Errno) {
	left := m.all[m.taken:]
	window := left[:min(9, len(left))]
	at := slices.IndexFunc(window, func(w api.Word) bool { return !slices.Contains(taken, w) })
	switch {
	case at >= 0:
		m.taken += at + 1
		return window[at], api.OK
	case len(window) == 9:
		m.taken += 9
		return api.Word{}, api.ErrTwin
	}
	m.taken = len(m.all)
	return api.Word{}, api.ErrDraws
}

// pair gives the draws of a list, and the model of them.
func pair(t *testing.T, l []api.Word, width int) (*draws.Draws, *model) {
	t.Helper()
	d, code := draws.New(l, width)
	if code != api.OK {
		t.Fatalf("draws.New: %d", code)
	}
	m := &model{}
	for _, w := range l {
		m.all = append(m.all, wide.Cut(w, width))
	}
	return d, m
}

// issued holds one answer against the model's, and against what follows of the promises; a tells how many were taken ahead of it.
func issued(t *testing.T, what string, d *draws.Draws, m *model, a int, taken []api.Word, got api.Word, code api.Errno) {
	t.Helper()
	left := len(m.all) - a
	want, wanted := m.draw(taken)
	if got != want || code != wanted {
		t.Fatalf("%s: %v, %d, want %v, %d", what, got, code, want, wanted)
	}
	if d.Taken() != m.taken || d.Left() != len(m.all)-m.taken {
		t.Fatalf("%s: taken %d, left %d, want %d of %d", what, d.Taken(), d.Left(), m.taken, len(m.all))
	}
	drawn := d.Taken() - a
	switch code {
	case api.OK:
		if drawn < 1 || drawn > 9 || slices.Contains(taken, got) {
			t.Fatalf("P13.3: %s: %v of %v, %d drawn", what, got, taken, drawn)
		}
	case api.ErrTwin:
		if drawn != 9 {
			t.Fatalf("P13.3: %s: ErrTwin, %d drawn", what, drawn)
		}
	case api.ErrDraws:
		if drawn != left || drawn >= 9 {
			t.Fatalf("P13.3: %s: ErrDraws, %d drawn of %d", what, drawn, left)
		}
	}
}

// drawn does one Draw on both.
func drawn(t *testing.T, d *draws.Draws, m *model, taken []api.Word) (api.Word, api.Errno) {
	t.Helper()
	a := d.Taken()
	got, code := issue.Draw(d, taken)
	issued(t, "P13.1: Draw", d, m, a, taken, got, code)
	return got, code
}

// skip sets how many are taken, on both.
func skip(d *draws.Draws, m *model, n int) {
	d.Skip(n)
	m.taken = n
}

// of does one Of on both, and looks whether the catalogue is as it was.
func of(t *testing.T, d *draws.Draws, m *model, c *catalogue.Catalogue, obj int) (api.Word, api.Errno) {
	t.Helper()
	var taken []api.Word
	held := all(c)
	for _, token := range c.Of(obj) {
		taken = append(taken, token.Cap.Pass)
	}
	a := d.Taken()
	got, code := issue.Of(d, c, obj)
	issued(t, "P13.2: Of", d, m, a, taken, got, code)
	if !slices.Equal(all(c), held) {
		t.Fatalf("P13.2: Of(%d) has changed the catalogue: %v, before %v", obj, all(c), held)
	}
	return got, code
}

// place: a number, and what is there.
type place struct {
	n     int
	token api.Token
}

// all tells everything that a catalogue holds, by its numbers.
func all(c *catalogue.Catalogue) []place {
	var out []place
	for n := range api.MaxEntries {
		if token, there := c.At(n); there {
			out = append(out, place{n, token})
		}
	}
	return out
}

// made gives an empty catalogue.
func made(t *testing.T, entries, knob int) *catalogue.Catalogue {
	t.Helper()
	c, code := catalogue.New(entries, knob)
	if code != api.OK {
		t.Fatalf("catalogue.New: %d", code)
	}
	return c
}

// fill gives an object tokens with these words, the first its root, the others its root's children.
func fill(t *testing.T, c *catalogue.Catalogue, obj int, passes ...api.Word) {
	t.Helper()
	root := -1
	for _, pass := range passes {
		var n int
		var code api.Errno
		if root < 0 {
			n, code = c.Root(api.Cap{Obj: obj, Pass: pass}, api.All)
			root = n
		} else {
			_, code = c.Child(root, api.Cap{Obj: obj, Pass: pass}, api.Read)
		}
		if code != api.OK {
			t.Fatalf("the catalogue refused %v: %d", pass, code)
		}
	}
}

// expect: one Draw, and what it must answer and leave, said by the chapter.
func expect(t *testing.T, what string, d *draws.Draws, taken []api.Word, want uint64, wanted api.Errno, n int) {
	t.Helper()
	if got, code := issue.Draw(d, taken); got != (api.Word{Lo: want}) || code != wanted || d.Taken() != n {
		t.Errorf("P13.1: %s: %v, %d, taken %d, want %d, %d, %d", what, got, code, d.Taken(), want, wanted, n)
	}
}

// P13.1 to P13.3: the chapter's examples.
func TestExamples(t *testing.T) {
	d, _ := pair(t, words(1, 1, 2), 8)
	expect(t, "none taken", d, nil, 1, api.OK, 1)
	expect(t, "1 taken", d, words(1), 2, api.OK, 3)
	expect(t, "none left", d, nil, 0, api.ErrDraws, 3)
	d.Skip(0)
	expect(t, "both taken", d, words(1, 2), 0, api.ErrDraws, 3)
	ten, _ := pair(t, times(5, 10), 8)
	expect(t, "ten words 5", ten, words(5), 0, api.ErrTwin, 9)
	expect(t, "the tenth", ten, words(5), 0, api.ErrDraws, 10)
	ten.Skip(0)
	expect(t, "6 taken", ten, words(6), 5, api.OK, 1)
	d.Skip(0)
	c := made(t, 4, 64)
	fill(t, c, 7, words(1, 2)...)
	if w, code := issue.Of(d, c, 7); w != (api.Word{}) || code != api.ErrDraws || d.Taken() != 3 {
		t.Errorf("P13.2: Of(7): %v, %d, taken %d", w, code, d.Taken())
	}
}

// P13.1: how many words are taken, and how many are left, at and beside nine.
func TestAroundNine(t *testing.T) {
	for many := range 20 {
		d, m := pair(t, times(5, many), 8)
		if _, code := drawn(t, d, m, words(5)); (code == api.ErrTwin) != (many >= 9) {
			t.Errorf("P13.1: %d words, all taken: %d", many, code)
		}
		d, m = pair(t, append(times(5, many), words(7)...), 8)
		got, code := drawn(t, d, m, words(5))
		if (code == api.OK) != (many <= 8) || code == api.OK && got != (api.Word{Lo: 7}) {
			t.Errorf("P13.1: the new one behind %d: %v, %d", many, got, code)
		}
		for d.Left() > 0 {
			drawn(t, d, m, words(5))
		}
		drawn(t, d, m, nil)
	}
}

// P13.1, P13.3: nothing left; again and again, whatever is taken.
func TestNoneLeft(t *testing.T) {
	for _, l := range [][]api.Word{nil, {}, words(3), times(3, 9)} {
		d, m := pair(t, l, 8)
		skip(d, m, len(l))
		c := made(t, 2, 0)
		fill(t, c, 1, words(3)...)
		for range 3 {
			for _, taken := range [][]api.Word{nil, words(3), words(0), words(3, 0)} {
				if w, code := drawn(t, d, m, taken); code != api.ErrDraws || w != (api.Word{}) {
					t.Errorf("P13.1: none left: %v, %d", w, code)
				}
			}
			of(t, d, m, c, 1)
			of(t, d, m, c, 2)
		}
	}
}

// P13.1, P13.3: every list of up to six words of two bits, every set of those that are taken, from every place on.
func TestEverySmall(t *testing.T) {
	for length := range 7 {
		for code := range 1 << (2 * length) {
			var l []api.Word
			for i := range length {
				l = append(l, api.Word{Lo: uint64(code >> (2 * i) & 3)})
			}
			d, m := pair(t, l, 2)
			for set := range 16 {
				var taken []api.Word
				for w := range 4 {
					if set>>w&1 == 1 {
						taken = append(taken, api.Word{Lo: uint64(w)})
					}
				}
				skip(d, m, code%(length+1))
				drawn(t, d, m, taken)
				drawn(t, d, m, taken)
			}
		}
	}
}

// P13.1, P13.2: every row of ten to twelve draws of which each is taken or not.
func TestEveryRowOfTwins(t *testing.T) {
	c := made(t, 3, 64)
	fill(t, c, 4, words(0)...)
	fill(t, c, 5, words(1)...)
	for length := 10; length <= 12; length++ {
		for row := range 1 << length {
			var l []api.Word
			for i := range length {
				l = append(l, api.Word{Lo: uint64(row >> i & 1)})
			}
			d, m := pair(t, l, 1)
			for obj := 3; obj <= 5; obj++ {
				skip(d, m, 0)
				drawn(t, d, m, words(0))
				drawn(t, d, m, words(0))
				skip(d, m, 0)
				of(t, d, m, c, obj)
				of(t, d, m, c, obj)
			}
		}
	}
}

// P13.1: a word is held against the taken ones whole: both halves, as it was drawn, cut to the width.
func TestWholeWords(t *testing.T) {
	l := []api.Word{{Hi: 1, Lo: 5}, {Hi: 0, Lo: 5}, {Hi: 5, Lo: 1}, {Hi: 5, Lo: 0}, {Hi: math.MaxUint64, Lo: math.MaxUint64}}
	for _, width := range []int{1, 2, 63, 64, 65, 127, 128} {
		for _, w := range l {
			for _, other := range l {
				d, m := pair(t, []api.Word{w, other}, width)
				got, code := drawn(t, d, m, []api.Word{other})
				if code == api.OK && !wide.Fits(got, width) {
					t.Errorf("P13.3: %v does not fit %d", got, width)
				}
				skip(d, m, 0)
				drawn(t, d, m, []api.Word{wide.Cut(other, width)})
				c := made(t, 1, 64)
				fill(t, c, 9, other)
				skip(d, m, 0)
				of(t, d, m, c, 9)
			}
		}
	}
	d, _ := pair(t, words(257, 257), 8)
	expect(t, "257 taken, 1 drawn", d, words(257), 1, api.OK, 1)
	expect(t, "1 taken, 257 cut to 1", d, words(1), 0, api.ErrDraws, 2)
}

// P13.1: the zero word is a word as others are.
func TestZeroWord(t *testing.T) {
	d, _ := pair(t, words(0, 0, 1), 8)
	expect(t, "none taken", d, nil, 0, api.OK, 1)
	d.Skip(0)
	expect(t, "0 taken", d, words(0), 1, api.OK, 3)
	c := made(t, 3, 64)
	d.Skip(0)
	if w, code := issue.Of(d, c, 0); w != (api.Word{}) || code != api.OK || d.Taken() != 1 {
		t.Errorf("P13.2: Of(0) of an empty catalogue: %v, %d, taken %d", w, code, d.Taken())
	}
	fill(t, c, 0, words(0)...)
	d.Skip(0)
	if w, code := issue.Of(d, c, 0); w != (api.Word{Lo: 1}) || code != api.OK || d.Taken() != 3 {
		t.Errorf("P13.2: Of(0): %v, %d, taken %d", w, code, d.Taken())
	}
}

// P13.1: repeats among the taken words, and words that are never drawn, play no part; nor does the order.
func TestLongTaken(t *testing.T) {
	chance := rand.New(rand.NewSource(13))
	for range 300 {
		var l, taken []api.Word
		for range 30 {
			l = append(l, api.Word{Lo: uint64(chance.Intn(6)), Hi: uint64(chance.Intn(2))})
		}
		for range chance.Intn(40) {
			taken = append(taken, api.Word{Lo: uint64(chance.Intn(6)), Hi: uint64(chance.Intn(3))})
		}
		d, m := pair(t, l, 65)
		for range 12 {
			drawn(t, d, m, taken)
			chance.Shuffle(len(taken), func(i, j int) { taken[i], taken[j] = taken[j], taken[i] })
		}
	}
}

// P13.1: a list of all words of a width but one, and a list that is far longer than nine.
func TestGreatest(t *testing.T) {
	var taken, l []api.Word
	for n := range uint64(65536) {
		if n != 777 {
			taken = append(taken, api.Word{Lo: n})
		}
	}
	for range api.MaxDraws - 1 {
		l = append(l, api.Word{Lo: 3})
	}
	l = append(l, api.Word{Lo: 777})
	d, m := pair(t, l, 16)
	twins := 0
	for d.Left() > 0 {
		_, code := drawn(t, d, m, taken)
		if code == api.ErrTwin {
			twins++
			continue
		}
		if code != api.OK {
			t.Fatalf("P13.1: %d behind %d twins", code, twins)
		}
	}
	if twins != 4095/9 {
		t.Errorf("P13.1: %d times ErrTwin, want %d", twins, 4095/9)
	}
}

// P13.2: the tokens of that object alone, wherever they stand in its tree, and whatever the knob is.
func TestOfDeep(t *testing.T) {
	for _, knob := range []int{0, 1, 5, 64} {
		c := made(t, 12, knob)
		above, _ := c.Root(api.Cap{Obj: 7, Pass: api.Word{Lo: 0}}, api.All)
		first := above
		for n := uint64(1); n < 8; n++ {
			above, _ = c.Child(above, api.Cap{Obj: 7, Pass: api.Word{Lo: n}}, api.All)
		}
		c.Child(first, api.Cap{Obj: 7, Pass: api.Word{Lo: 8}}, api.Read)
		fill(t, c, 8, words(9, 3)...)
		for last := uint64(8); last < 12; last++ {
			d, m := pair(t, words(8, 7, 6, 5, 4, 3, 2, 1, last), 8)
			for _, obj := range []int{7, 8, 9, -7, math.MinInt, math.MaxInt} {
				skip(d, m, 0)
				of(t, d, m, c, obj)
				of(t, d, m, c, obj)
			}
		}
	}
}

// P13.2: objects of any number, and words of any width, may be in a catalogue.
func TestOfAnyObject(t *testing.T) {
	c := made(t, 32, 3)
	objects := []int{math.MinInt, -1 << 32, -1, 0, 1, 1 << 32, api.MaxId, math.MaxInt}
	for i, obj := range objects {
		fill(t, c, obj, api.Word{Lo: uint64(i)}, api.Word{Hi: math.MaxUint64, Lo: uint64(i)})
	}
	for _, width := range []int{3, 64, 128} {
		l := words(0, 1, 2, 3, 4, 5, 6, 7)
		for n := range uint64(8) {
			l = append(l, api.Word{Hi: math.MaxUint64, Lo: n})
		}
		d, m := pair(t, l, width)
		for _, obj := range objects {
			for from := range len(l) + 1 {
				skip(d, m, from)
				of(t, d, m, c, obj)
			}
		}
	}
}

// P13.2: a token that was dropped holds its word no more; one that came behind does.
func TestOfFollowsTheCatalogue(t *testing.T) {
	c := made(t, 8, 64)
	d, m := pair(t, words(1, 2, 3), 8)
	ask := func(want uint64, wanted api.Errno) {
		t.Helper()
		skip(d, m, 0)
		if got, code := of(t, d, m, c, 7); got != (api.Word{Lo: want}) || code != wanted {
			t.Errorf("P13.2: Of(7): %v, %d, want %d, %d", got, code, want, wanted)
		}
	}
	ask(1, api.OK)
	fill(t, c, 7, words(1, 2)...)
	ask(3, api.OK)
	c.Child(0, api.Cap{Obj: 7, Pass: api.Word{Lo: 3}}, api.Read)
	ask(0, api.ErrDraws)
	c.Drop(1)
	ask(2, api.OK)
	c.Drop(0)
	ask(1, api.OK)
}

// P13.2, P13.3: a catalogue that grows by what is issued, and shrinks by chance: no object has a word twice.
func TestIssueAndFill(t *testing.T) {
	chance := rand.New(rand.NewSource(31))
	for range 60 {
		var l []api.Word
		for range 120 {
			l = append(l, api.Word{Lo: chance.Uint64(), Hi: chance.Uint64()})
		}
		d, m := pair(t, l, 1+chance.Intn(4))
		c := made(t, 24, chance.Intn(65))
		for d.Left() > 0 {
			obj := chance.Intn(3)
			pass, code := of(t, d, m, c, obj)
			if code == api.OK {
				x := api.Cap{Obj: obj, Pass: pass}
				if tokens := c.Of(obj); len(tokens) == 0 {
					_, code = c.Root(x, api.All)
				} else {
					root, _ := c.Find(tokens[0].Cap)
					_, code = c.Child(root, x, api.Read)
				}
				if code == api.ErrThere {
					t.Fatalf("P13.3: the word %v was there", pass)
				}
			}
			if chance.Intn(6) == 0 {
				c.Drop(chance.Intn(24))
			}
		}
	}
}

// P13.4: taken stays as it was, its spare room too, and is looked at in the call alone.
func TestTakenIsNotTouched(t *testing.T) {
	room := words(5, 6, 7, 8, 9, 10)
	taken := room[:2]
	d, m := pair(t, words(5, 6, 7, 7, 5, 6, 5, 6, 5, 6, 5, 6, 5, 6), 8)
	for range 4 {
		drawn(t, d, m, taken)
		if !slices.Equal(room, words(5, 6, 7, 8, 9, 10)) {
			t.Fatalf("P13.4: taken was changed: %v", room)
		}
	}
	skip(d, m, 0)
	drawn(t, d, m, taken)
	taken[0], taken[1] = api.Word{Lo: 7}, api.Word{Lo: 7}
	skip(d, m, 0)
	if w, code := drawn(t, d, m, nil); w != (api.Word{Lo: 5}) || code != api.OK {
		t.Errorf("P13.4: an earlier call's taken plays a part: %v, %d", w, code)
	}
	skip(d, m, 0)
	if w, code := drawn(t, d, m, taken); w != (api.Word{Lo: 5}) || code != api.OK {
		t.Errorf("P13.4: an earlier call's taken plays a part: %v, %d", w, code)
	}
}

// P13.1, P13.2: calls on one list of draws leave another as it was; both ways draw from the same list.
func TestTwo(t *testing.T) {
	a, ma := pair(t, times(1, 30), 8)
	b, mb := pair(t, times(1, 30), 8)
	c := made(t, 2, 64)
	fill(t, c, 7, words(1)...)
	drawn(t, a, ma, words(1))
	of(t, a, ma, c, 7)
	of(t, b, mb, c, 8)
	drawn(t, a, ma, nil)
	if a.Taken() != 19 || b.Taken() != 1 {
		t.Errorf("P13.1: taken %d and %d, want 19 and 1", a.Taken(), b.Taken())
	}
}
