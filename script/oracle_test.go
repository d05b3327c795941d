package script_test

import (
	"encoding/hex"
	"fmt"
	"regexp"
	"strconv"
	"strings"
	"testing"

	"sesame/api"
	"sesame/kernel"
)

// oracle answers lines as the chapter's table says: lines are known by regular expressions, texts are made by fmt and hex. The calls are done by a kernel, which layer 21's tests hold against the plain model.
type oracle struct {
	t     testing.TB
	k     *kernel.Kernel
	draws []api.Word
	saved *saved
}

// saved is what was saved: by values, not by bytes.
type saved struct {
	c api.Config
	s api.State
}

const (
	oneN = `(?:0|-?[1-9][0-9]*)`
	oneP = `(?:0|[1-9a-f][0-9a-f]{0,31})`
)

// kinds: the words of each kind, as patterns.
var kinds = map[string]string{
	"N":  `(` + oneN + `)`,
	"O":  `(0|[1-9][0-9]*)`,
	"P":  `(` + oneP + `)`,
	"R":  `(-|[rwdvx]+)`,
	"B":  `(-|(?:[0-9a-f][0-9a-f])+)`,
	"L":  `(-|` + oneN + `(?:,` + oneN + `)*)`,
	"L'": `(-|` + oneP + `(?:,` + oneP + `)*)`,
}

// pattern: a form's.
type pattern struct {
	form string
	re   *regexp.Regexp
}

var patterns = func() []pattern {
	var out []pattern
	for _, form := range table {
		var words []string
		for _, letter := range strings.Fields(form) {
			if kinds[letter] != "" {
				letter = kinds[letter]
			}
			words = append(words, letter)
		}
		out = append(out, pattern{form, regexp.MustCompile(`\A` + strings.Join(words, " ") + `\z`)})
	}
	return out
}()

var aWord = regexp.MustCompile(`[^ ]+`)

// split gives a line's form, and its words' values; none, if it has no form.
func split(line string) (string, []string) {
	one := strings.Join(aWord.FindAllString(line, -1), " ")
	for _, p := range patterns {
		if m := p.re.FindStringSubmatch(one); m != nil && fitAll(p.form, m[1:]) {
			return p.form, m[1:]
		}
	}
	return "", nil
}

// fitAll tells whether each number is within its bounds, and each rights' letter stands in order.
func fitAll(form string, values []string) bool {
	at := 0
	for _, letter := range strings.Fields(form) {
		if kinds[letter] == "" {
			continue
		}
		if !fit(letter, values[at]) {
			return false
		}
		at++
	}
	return true
}

func fit(letter, word string) bool {
	switch letter {
	case "N":
		_, err := strconv.ParseInt(word, 10, 32)
		return err == nil
	case "O":
		n, err := strconv.ParseUint(word, 10, 64)
		return err == nil && n <= 1<<62
	case "R":
		return word == "-" || regexp.MustCompile(`\Ar?w?d?v?x?\z`).MatchString(word)
	case "L":
		for _, part := range strings.Split(word, ",") {
			if word != "-" && !fit("N", part) {
				return false
			}
		}
	}
	return true
}

func (o *oracle) int(word string) int {
	n, err := strconv.Atoi(word)
	if err != nil {
		o.t.Fatalf("the test's own fault: %q", word)
	}
	return n
}

func (o *oracle) word(word string) api.Word {
	word = strings.Repeat("0", 32-len(word)) + word
	high, _ := strconv.ParseUint(word[:16], 16, 64)
	low, _ := strconv.ParseUint(word[16:], 16, 64)
	return api.Word{Hi: high, Lo: low}
}

func (o *oracle) cap(obj, pass string) api.Cap {
	return api.Cap{Obj: o.int(obj), Pass: o.word(pass)}
}

func (o *oracle) bytes(word string) []byte {
	b, err := hex.DecodeString(strings.TrimPrefix(word, "-"))
	if err != nil {
		o.t.Fatalf("the test's own fault: %q", word)
	}
	return b
}

func (o *oracle) rights(word string) int {
	r := 0
	for at, letter := range "rwdvx" {
		if strings.ContainsRune(word, letter) {
			r += 1 << at
		}
	}
	return r
}

func (o *oracle) many(word string) []string {
	if word == "-" {
		return nil
	}
	return strings.Split(word, ",")
}

// do answers a line.
func (o *oracle) do(line string) string {
	if strings.Contains(line, "\n") {
		return "error 22"
	}
	if trimmed := strings.TrimLeft(line, " "); trimmed == "" || trimmed[0] == '#' {
		return ""
	}
	form, v := split(line)
	if form == "" {
		return "error 22"
	}
	if strings.HasPrefix(form, "kernel") {
		return o.begin(v)
	}
	if o.k == nil {
		return "error 20"
	}
	switch form {
	case "state":
		return o.state()
	case "save":
		o.saved = &saved{o.k.Config(), o.k.State()}
		return fmt.Sprint("bytes ", o.size())
	case "load":
		return o.load()
	}
	return o.call(form, v)
}

func (o *oracle) begin(v []string) string {
	var draws []api.Word
	for _, word := range o.many(v[10]) {
		draws = append(draws, o.word(word))
	}
	c := api.Config{Width: o.int(v[0]), Objects: o.int(v[1]), Pages: o.int(v[2]), Entries: o.int(v[3]), Quota: o.int(v[4]), Procs: o.int(v[5]), List: o.int(v[6]), Sets: o.int(v[7]), Ways: o.int(v[8]), Knob: o.int(v[9])}
	k, code := kernel.New(c, draws)
	if code != api.OK {
		return fmt.Sprint("error ", int(code))
	}
	o.k, o.draws = k, draws
	return "ok"
}

func (o *oracle) load() string {
	if o.saved == nil {
		return "error 20"
	}
	if o.saved.s.Taken > len(o.draws) {
		return "error 21"
	}
	k, code := kernel.Load(o.saved.c, o.draws, o.saved.s)
	if code != api.OK {
		o.t.Fatalf("the test's own fault: %d", code)
	}
	o.k = k
	return "ok"
}

// size tells how many bytes an image has, by the form of chapter 23.
func (o *oracle) size() int {
	n := 8 + 10*2 + 8 + 4 + 2 + 2 + 2 + 2
	for _, x := range o.saved.s.Objects {
		n += 8 + 2 + len(x.Bytes)
	}
	n += len(o.saved.s.Tokens) * (8 + 16 + 1 + 2)
	for _, p := range o.saved.s.Processes {
		n += 2 + 1 + 24*len(p.List)
	}
	return n
}

// pass tells a word: as hex of both its halves, without zeros ahead.
func pass(w api.Word) string {
	text := strings.TrimLeft(fmt.Sprintf("%016x%016x", w.Hi, w.Lo), "0")
	if text == "" {
		return "0"
	}
	return text
}

func (o *oracle) state() string {
	var out strings.Builder
	s := o.k.State()
	for _, x := range s.Objects {
		fmt.Fprintf(&out, "object %d %d\n", x.Id, len(x.Bytes))
	}
	for _, x := range s.Tokens {
		names := ""
		for at, letter := range "rwdvx" {
			if x.Rights>>at&1 == 1 {
				names += string(letter)
			}
		}
		parent := "root"
		if x.Parent >= 0 {
			p := s.Tokens[x.Parent].Cap
			parent = fmt.Sprintf("%d %s", p.Obj, pass(p.Pass))
		}
		fmt.Fprintf(&out, "token %d %s %s %s\n", x.Cap.Obj, pass(x.Cap.Pass), names, parent)
	}
	for _, x := range s.Processes {
		list := "-"
		for at, c := range x.List {
			if at == 0 {
				list = ""
			} else {
				list += ","
			}
			list += fmt.Sprintf("%d:%s", c.Obj, pass(c.Pass))
		}
		fmt.Fprintf(&out, "process %d %s\n", x.Number, list)
	}
	fmt.Fprintf(&out, "next %d %d %d", s.NextId, s.NextProc, s.Taken)
	return out.String()
}

func (o *oracle) call(form string, v []string) string {
	c := api.Call{By: o.int(v[0])}
	switch form {
	case "N create N":
		c.Op, c.Size = api.OpCreate, o.int(v[1])
	case "N destroy O P":
		c.Op, c.Cap = api.OpDestroy, o.cap(v[1], v[2])
	case "N revoke O P":
		c.Op, c.Cap = api.OpRevoke, o.cap(v[1], v[2])
	case "N derive O P R":
		c.Op, c.Cap, c.Rights = api.OpDerive, o.cap(v[1], v[2]), o.rights(v[3])
	case "N read O N N":
		c.Op, c.Cap.Obj, c.Off, c.N = api.OpRead, o.int(v[1]), o.int(v[2]), o.int(v[3])
	case "N read O P N N":
		c.Op, c.Given, c.Cap, c.Off, c.N = api.OpRead, true, o.cap(v[1], v[2]), o.int(v[3]), o.int(v[4])
	case "N write O N B":
		c.Op, c.Cap.Obj, c.Off, c.Data = api.OpWrite, o.int(v[1]), o.int(v[2]), o.bytes(v[3])
	case "N write O P N B":
		c.Op, c.Given, c.Cap, c.Off, c.Data = api.OpWrite, true, o.cap(v[1], v[2]), o.int(v[3]), o.bytes(v[4])
	case "N add O P":
		c.Op, c.Cap = api.OpAdd, o.cap(v[1], v[2])
	case "N remove N":
		c.Op, c.Index = api.OpRemove, o.int(v[1])
	case "N exit":
		c.Op = api.OpExit
	case "N spawn L":
		c.Op = api.OpSpawn
		for _, word := range o.many(v[1]) {
			c.Gifts = append(c.Gifts, o.int(word))
		}
	}
	return o.answer(c.Op, o.k.Do(c))
}

func (o *oracle) answer(op int, r api.Reply) string {
	switch {
	case r.Code != api.OK:
		return fmt.Sprint("error ", int(r.Code))
	case op == api.OpCreate || op == api.OpDerive:
		return fmt.Sprintf("cap %d %s", r.Cap.Obj, pass(r.Cap.Pass))
	case op == api.OpRead && len(r.Data) == 0:
		return "bytes -"
	case op == api.OpRead:
		return fmt.Sprintf("bytes %x", r.Data)
	case op == api.OpSpawn:
		return fmt.Sprintf("process %d", r.Number)
	}
	return "ok"
}
