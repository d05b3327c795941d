package script_test

import (
	"fmt"
	"math/rand"
	"slices"
	"strings"
	"testing"

	"sesame/api"
	"sesame/mask"
	"sesame/script"
)

// chance makes lines, with an oracle beside it that tells what is there.
type chance struct {
	*rand.Rand
	o      *oracle
	issued []api.Cap
	lines  []string
	wants  []string
}

func any1[T any](rng *rand.Rand, list []T) T { return list[rng.Intn(len(list))] }

func anyChance(t testing.TB, seed int64) *chance {
	return &chance{Rand: rand.New(rand.NewSource(seed)), o: &oracle{t: t}}
}

func (r *chance) state() api.State {
	if r.o.k == nil {
		return api.State{}
	}
	return r.o.k.State()
}

// anyCap gives one that is live, mostly.
func (r *chance) anyCap(s api.State) api.Cap {
	if len(s.Tokens) > 0 && r.Intn(8) > 0 {
		return any1(r.Rand, s.Tokens).Cap
	}
	if len(r.issued) > 0 && r.Intn(3) > 0 {
		return any1(r.Rand, r.issued)
	}
	return api.Cap{Obj: r.Intn(3), Pass: api.Word{Lo: uint64(r.Intn(300))}}
}

func (r *chance) anyKernel() string {
	n := func(least, most int) int { return least + r.Intn(most-least+1) }
	width := any1(r.Rand, []int{1, 2, 3, 8, 8, 8, 64, 128, n(-1, 129)})
	out := fmt.Sprintf("kernel %d %d %d %d %d %d %d %d %d %d", width, n(1, 6), n(1, 12), n(2, 20), n(1, 8), n(1, 6), n(1, 4), n(0, 2), n(1, 4), n(0, 64))
	if r.Intn(12) == 0 {
		out = fmt.Sprintf("kernel %d %d %d %d %d %d %d %d %d %d", width, n(0, 70), n(0, 270), n(0, 270), n(0, 270), n(0, 35), n(0, 35), n(-1, 17), n(0, 5), n(-1, 65))
	}
	var draws []string
	for range any1(r.Rand, []int{0, 2, 10, 40, 40, 40}) {
		draws = append(draws, pass(api.Word{Hi: uint64(r.Intn(2)), Lo: uint64(r.Intn(40))}))
	}
	if len(draws) == 0 {
		draws = []string{"-"}
	}
	return out + " " + strings.Join(draws, ",")
}

func (r *chance) anyBytes() string {
	b := make([]byte, any1(r.Rand, []int{0, 1, 2, 9, 24, 24, 70}))
	r.Read(b)
	if len(b) == 0 {
		return "-"
	}
	return fmt.Sprintf("%x", b)
}

func (r *chance) anyGifts() string {
	var out []string
	for range r.Intn(4) {
		out = append(out, fmt.Sprint(any1(r.Rand, []int{0, 0, 0, 1, 1, 2, -1, 70000})))
	}
	if len(out) == 0 {
		return "-"
	}
	return strings.Join(out, ",")
}

// forms: what lines are made of. What takes much away comes rarely, so that much is there.
var forms = []string{
	"create", "create", "create", "derive", "derive", "derive", "derive", "derive", "read", "read", "read", "read", "readGiven", "readGiven", "write", "write", "writeGiven", "writeGiven",
	"add", "add", "add", "spawn", "spawn", "spawn", "remove", "revoke", "destroy", "exit", "state", "state", "save", "load", "silent", "kernel",
}

// anyLine gives one of the table, mostly.
func (r *chance) anyLine() string {
	s := r.state()
	by := r.Intn(4)
	if len(s.Processes) > 0 && r.Intn(20) > 0 {
		by = any1(r.Rand, s.Processes).Number
	}
	c := r.anyCap(s)
	obj, off, n := fmt.Sprint(c.Obj), r.Intn(40)-1, r.Intn(40)-1
	cap := obj + " " + pass(c.Pass)
	switch form := any1(r.Rand, forms); form {
	case "create":
		return fmt.Sprint(by, " create ", any1(r.Rand, []int{-1, 0, 20, 40, 70, 130, 4096, 4097}))
	case "derive":
		return fmt.Sprint(by, " derive ", cap, " ", mask.Names(any1(r.Rand, []int{31, 31, 15, 7, 7, 3, r.Intn(32)})))
	case "read":
		return fmt.Sprint(by, " read ", obj, " ", off, " ", n)
	case "readGiven":
		return fmt.Sprint(by, " read ", cap, " ", off, " ", n)
	case "write":
		return fmt.Sprint(by, " write ", obj, " ", off, " ", r.anyBytes())
	case "writeGiven":
		return fmt.Sprint(by, " write ", cap, " ", off, " ", r.anyBytes())
	case "add", "revoke", "destroy":
		return fmt.Sprint(by, " ", form, " ", cap)
	case "remove":
		return fmt.Sprint(by, " remove ", r.Intn(4)-1)
	case "spawn":
		return fmt.Sprint(by, " spawn ", r.anyGifts())
	case "exit":
		if len(s.Processes) == 1 && r.Intn(10) > 0 {
			return "state" // the last one's exit would end the run
		}
		return fmt.Sprint(by, " exit")
	case "kernel":
		return r.anyKernel()
	case "silent":
		return r.anySilent()
	default:
		return form
	}
}

func (r *chance) anySilent() string {
	return any1(r.Rand, []string{"", " ", "    ", "#", "# 0 create 1", "  #state", "##", "#\t\xff"})
}

// spoilt gives a line that is none of the table any more, mostly.
func (r *chance) spoilt(line string) string {
	words := strings.Fields(line)
	if len(words) == 0 {
		return any1(r.Rand, []string{"\n", "\t", " x", "0 #"})
	}
	at := r.Intn(len(words))
	switch r.Intn(8) {
	case 0:
		words = slices.Delete(words, at, at+1)
	case 1:
		words = slices.Insert(words, at, any1(r.Rand, []string{"0", "1", "-", "00", "r", "ff", "#", "0,1"}))
	case 2:
		words[at] = any1(r.Rand, []string{"0", "-0", "-", "007", "-1", "r", "rw", "wr", "0A", "ab", "1,2", "1,", "create", "read", "2147483648", "-2147483648", "4611686018427387904", "4611686018427387905", strings.Repeat("f", 32), strings.Repeat("f", 33)})
	case 3:
		b := []byte(words[at])
		b[r.Intn(len(b))] = any1(r.Rand, []byte("01-,afrxA#\t\n\r\x00\xff"))
		words[at] = string(b)
	case 4:
		words[at] = any1(r.Rand, []string{"0", "-", "+", ",", "\t", "#"}) + words[at]
	case 5:
		words[at] += any1(r.Rand, []string{"0", "-", ",", "\t", "\n", "\r", ",0", ",5"})
	case 6:
		other := r.Intn(len(words))
		words[at], words[other] = words[other], words[at]
	case 7:
		words[at] = strings.ToUpper(words[at])
	}
	return strings.Join(words, " ")
}

// spaced gives a line with more blanks.
func (r *chance) spaced(line string) string {
	blanks := strings.Repeat(" ", r.Intn(4))
	return blanks + strings.ReplaceAll(line, " ", " "+strings.Repeat(" ", r.Intn(3))) + strings.Repeat(" ", r.Intn(2))
}

// next makes one line more, and answers it.
func (r *chance) next() {
	line := r.anyLine()
	if len(r.lines) == 0 && r.Intn(5) > 0 {
		line = r.anyKernel()
	}
	if r.Intn(8) == 0 {
		line = r.spoilt(line)
	} else if r.Intn(4) == 0 {
		line = r.spaced(line)
	}
	want := r.o.do(line)
	for _, x := range r.state().Tokens {
		if len(r.issued) < 100 && !slices.Contains(r.issued, x.Cap) {
			r.issued = append(r.issued, x.Cap)
		}
	}
	r.lines, r.wants = append(r.lines, line), append(r.wants, want)
}

// anyTalk gives lines and their answers.
func anyTalk(t testing.TB, seed int64, n int) *chance {
	r := anyChance(t, seed)
	for range n {
		r.next()
	}
	return r
}

// text gives lines as a text, of which the last may lack its end.
func (r *chance) text(lines []string) string {
	return strings.Join(lines, "\n") + any1(r.Rand, []string{"", "\n"})
}

// P28.1: lines of all kinds, a session's answers held against the oracle's; in some the state is asked behind each line.
func TestTalks(t *testing.T) {
	counts := map[string]int{}
	for seed := range int64(300) {
		r := anyTalk(t, seed, 150)
		s := script.New()
		for at, line := range r.lines {
			got := said(s, line)
			if got != r.wants[at] {
				t.Fatalf("P28.1: talk %d, line %d: %q: %q, want %q; behind %q", seed, at, line, got, r.wants[at], r.lines[:at])
			}
			counts[strings.SplitN(got, " ", 2)[0]]++
			if strings.HasPrefix(got, "error ") {
				counts[got]++
			}
		}
	}
	for _, want := range []string{"", "ok", "cap", "bytes", "process", "object", "next", "error 1", "error 2", "error 3", "error 4", "error 5", "error 6", "error 7", "error 8", "error 9", "error 10", "error 11", "error 12", "error 13", "error 14", "error 15", "error 16", "error 18", "error 20", "error 21", "error 22"} {
		if counts[want] < 5 {
			t.Errorf("the talks have too few answers %q: %d", want, counts[want])
		}
	}
}

// P28.1: with a refusal nothing has changed, but what the kernel's changes: the state behind each line is the oracle's.
func TestStates(t *testing.T) {
	for seed := range int64(60) {
		r, s := anyChance(t, 1000+seed), script.New()
		for range 120 {
			r.next()
			line := r.lines[len(r.lines)-1]
			s.Do(line)
			if got, want := said(s, "state"), r.o.do("state"); got != want {
				t.Fatalf("P28.1: talk %d: behind %q: %q, want %q", seed, line, got, want)
			}
		}
	}
}

// answersOf gives a list of answers as a text.
func answersOf(wants []string) string {
	var out strings.Builder
	for _, want := range wants {
		if want != "" {
			out.WriteString(want + "\n")
		}
	}
	return out.String()
}

// asText gives lines that can stand in a text, with their answers: a line that holds an end is two there.
func (r *chance) asText() ([]string, []string) {
	var lines []string
	for _, line := range r.lines {
		lines = append(lines, strings.Split(line, "\n")...)
	}
	o := &oracle{t: r.o.t}
	var wants []string
	for _, line := range lines {
		wants = append(wants, o.do(line))
	}
	return lines, wants
}

// P28.2: Run of a text is Do of its lines; P28.3: what a text begins with is answered alike, whatever follows.
func TestTexts(t *testing.T) {
	for seed := range int64(60) {
		r := anyTalk(t, 2000+seed, 100)
		lines, wants := r.asText()
		for n := 0; n <= len(lines); n += 1 + r.Intn(7) {
			text := r.text(lines[:n])
			if n == len(lines) || r.Intn(2) == 0 {
				text = strings.Join(lines[:n], "\n")
			}
			want := answersOf(wants[:n])
			if len(text) > api.MaxText {
				want = "error 22\n"
			}
			if got := script.Run(text); got != want {
				t.Fatalf("P28.2, P28.3: text %d, %d lines: %q, want %q", seed, n, got, want)
			}
		}
	}
}

// quiet gives a line that may change no later answer: with a save among them only where nothing is loaded.
func (r *chance) quiet(save bool) string {
	if save && r.Intn(2) == 0 {
		return "save"
	}
	if r.Intn(3) == 0 {
		return r.anySilent()
	}
	return "state"
}

// P28.3: state, save and lines that say nothing change no later answer, but what load finds.
func TestQuiet(t *testing.T) {
	for seed := range int64(120) {
		r := anyTalk(t, 3000+seed, 100)
		loads := slices.ContainsFunc(r.lines, func(line string) bool { return strings.TrimSpace(line) == "load" })
		s := script.New()
		for at, line := range r.lines {
			for range r.Intn(3) {
				s.Do(r.quiet(!loads))
			}
			if got := said(s, line); got != r.wants[at] {
				t.Fatalf("P28.3: talk %d, line %d: %q: %q, want %q", seed, at, line, got, r.wants[at])
			}
		}
		left := script.New() // and without those that are there
		for at, line := range r.lines {
			quiet := strings.TrimSpace(line)
			if quiet == "" || quiet[0] == '#' || quiet == "state" || quiet == "save" && !loads {
				continue
			}
			if got := said(left, line); got != r.wants[at] {
				t.Fatalf("P28.3: talk %d without what is quiet, line %d: %q: %q, want %q", seed, at, line, got, r.wants[at])
			}
		}
	}
}

// P28.1, P28.2: whatever bytes there are, every line has an answer that is the table's, or error 22.
func TestAnyBytes(t *testing.T) {
	rng := rand.New(rand.NewSource(7))
	for range 400 {
		b := make([]byte, rng.Intn(120))
		for at := range b {
			b[at] = any1(rng, []byte("00112589afr-,# \n\t\x00\xff"))
			if rng.Intn(20) == 0 {
				b[at] = byte(rng.Intn(256))
			}
		}
		lines := strings.Split(string(b), "\n")
		o := &oracle{t: t}
		var wants []string
		for _, line := range lines {
			wants = append(wants, o.do(line))
		}
		if got := script.Run(string(b)); got != answersOf(wants) {
			t.Fatalf("P28.2: Run(%q) = %q, want %q", b, got, answersOf(wants))
		}
		s := script.New()
		if got, want := said(s, string(b)), (&oracle{t: t}).do(string(b)); got != want {
			t.Fatalf("P28.1: Do(%q) = %q, want %q", b, got, want)
		}
	}
}
