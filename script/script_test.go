package script_test

import (
	"slices"
	"strconv"
	"strings"
	"testing"

	"sesame/api"
	"sesame/mask"
	"sesame/script"
)

// said gives an answer as one text.
func said(s *script.Session, line string) string { return strings.Join(s.Do(line), "\n") }

// asked: a line, and the answer's lines with their ends between.
type asked struct{ line, want string }

// talks says lines one behind the other.
func talks(t *testing.T, s *script.Session, l ...asked) {
	t.Helper()
	for _, a := range l {
		if got := said(s, a.line); got != a.want {
			t.Errorf("P28.1: %q: %q, want %q", a.line, got, a.want)
		}
	}
}

const (
	smallLine = "kernel 8 2 3 4 3 2 2 1 1 0 5,105,5,7,9"
	bigLine   = "kernel 128 64 256 256 256 32 32 16 4 64 "
)

// begun gives a session with a kernel.
func begun(t testing.TB, line string) *script.Session {
	t.Helper()
	s := script.New()
	if got := said(s, line); got != "ok" {
		t.Fatalf("P28.1: %q: %q", line, got)
	}
	return s
}

// The chapter's examples.
func TestExamples(t *testing.T) {
	s := script.New()
	talks(t, s,
		asked{smallLine, "ok"},
		asked{"0 create 65", "cap 1 5"},
		asked{"0 derive 1 5 rw", "cap 1 7"},
		asked{"0 write 1 7 64 09", "ok"},
		asked{"0 read 1 7 60 5", "bytes 0000000009"},
		asked{"0 read 1 0 1", "error 3"},
		asked{"0 add 1 7", "ok"},
		asked{"0 read 1 64 1", "bytes 09"},
		asked{"0 spawn 0", "process 1"},
		asked{"0 revoke 1 7", "error 4"},
		asked{"state", "object 1 65\ntoken 1 5 rwdvx root\ntoken 1 7 rw 1 5\nprocess 0 1:7\nprocess 1 1:7\nnext 2 2 4"},
		asked{"0 revoke 1 5", "ok"},
		asked{"1 read 1 0 1", "error 3"},
		asked{"0 create 0", "cap 2 9"},
		asked{"0 create", "error 22"},
		asked{"00 create 1", "error 22"},
		asked{"5 create 1", "error 2"},
	)
	talks(t, script.New(), asked{"create 1", "error 22"}, asked{"state", "error 20"})
}

// P28.1: every line of the table, with what it answers, and state behind each that may change it.
func TestEveryVerb(t *testing.T) {
	talks(t, begun(t, "kernel 16 3 4 6 4 3 3 1 1 64 a1,b2,c3,d4,e5"),
		asked{"state", "process 0 -\nnext 1 1 0"},
		asked{"0 create 0", "cap 1 a1"},
		asked{"state", "object 1 0\ntoken 1 a1 rwdvx root\nprocess 0 -\nnext 2 1 1"},
		asked{"0 create 66", "cap 2 b2"},
		asked{"0 derive 2 b2 rd", "cap 2 c3"},
		asked{"0 derive 2 c3 r", "cap 2 d4"},
		asked{"0 derive 2 b2 w", "cap 2 e5"},
		asked{"state", "object 1 0\nobject 2 66\ntoken 1 a1 rwdvx root\ntoken 2 b2 rwdvx root\ntoken 2 c3 rd 2 b2\ntoken 2 d4 r 2 c3\ntoken 2 e5 w 2 b2\nprocess 0 -\nnext 3 1 5"},
		asked{"0 add 2 d4", "ok"},
		asked{"0 add 7 0", "ok"},
		asked{"0 add 2 e5", "ok"},
		asked{"0 add 2 e5", "error 14"},
		asked{"0 write 2 63 0abc", "ok"},
		asked{"0 write 2 b2 65 ff", "ok"},
		asked{"0 read 2 62 4", "bytes 000abcff"},
		asked{"0 read 2 c3 64 2", "bytes bcff"},
		asked{"0 read 2 66 0", "bytes -"},
		asked{"0 write 2 66 -", "ok"},
		asked{"0 spawn 2,1,2", "process 1"},
		asked{"1 spawn -", "process 2"},
		asked{"0 remove 1", "ok"},
		asked{"state", "object 1 0\nobject 2 66\ntoken 1 a1 rwdvx root\ntoken 2 b2 rwdvx root\ntoken 2 c3 rd 2 b2\ntoken 2 d4 r 2 c3\ntoken 2 e5 w 2 b2\nprocess 0 2:d4,2:e5\nprocess 1 2:e5,7:0,2:e5\nprocess 2 -\nnext 3 3 5"},
		asked{"1 revoke 2 c3", "error 4"},
		asked{"2 destroy 1 a1", "ok"},
		asked{"0 exit", "ok"},
		asked{"state", "object 2 66\ntoken 2 b2 rwdvx root\ntoken 2 c3 rd 2 b2\ntoken 2 d4 r 2 c3\ntoken 2 e5 w 2 b2\nprocess 1 2:e5,7:0,2:e5\nprocess 2 -\nnext 3 3 5"},
		asked{"1 revoke 2 b2", "ok"},
		asked{"2 exit", "ok"},
		asked{"1 create 0", "error 11"},
		asked{"1 exit", "ok"},
		asked{"state", "next 3 3 5"},
		asked{"1 exit", "error 2"},
	)
}

// P28.1: the refusals of the calls, each by its number.
func TestRefusals(t *testing.T) {
	talks(t, begun(t, "kernel 8 2 3 3 2 2 1 0 1 64 1,2,2,2,2,2,2,2,2,2,2,2,3"),
		asked{"-1 create 1", "error 1"},
		asked{"65536 exit", "error 1"},
		asked{"0 remove -1", "error 1"},
		asked{"0 spawn 0,-1", "error 1"},
		asked{"1 create 1", "error 2"},
		asked{"0 read 1 1 0 1", "error 3"},
		asked{"0 create -1", "error 6"},
		asked{"0 create 4097", "error 6"},
		asked{"0 create 193", "error 8"},
		asked{"0 create 64", "cap 1 1"},
		asked{"0 derive 1 1 -", "error 4"},
		asked{"0 read 1 1 64 1", "error 5"},
		asked{"0 read 1 1 -2147483648 1", "error 5"},
		asked{"0 read 1 1 0 -2147483648", "error 5"},
		asked{"0 write 1 1 64 00", "error 5"},
		asked{"0 derive 1 1 r", "cap 1 2"},
		asked{"0 derive 1 1 r", "error 9"},
		asked{"0 create 64", "cap 2 2"},
		asked{"0 create 64", "error 7"},
		asked{"0 derive 2 2 r", "error 10"},
		asked{"0 revoke 1 1", "ok"},
		asked{"0 derive 2 2 r", "error 12"},
		asked{"0 derive 2 2 r", "cap 2 3"},
		asked{"0 create 1", "error 11"},
		asked{"0 add 2 100", "error 18"},
		asked{"0 add 2 ff", "ok"},
		asked{"0 add 2 ff", "error 14"},
		asked{"0 spawn 1", "error 15"},
		asked{"0 spawn 0,0", "error 14"},
		asked{"0 spawn 0", "process 1"},
		asked{"0 spawn 0", "error 13"},
		asked{"1 remove 1", "error 15"},
	)
}

// Words of each kind: those that there are, and those that are none.
var (
	numbers    = []string{"0", "1", "-1", "10", "-10", "65535", "65536", "2147483647", "-2147483648"}
	noNumbers  = []string{"-", "-0", "00", "01", "-01", "--1", "+1", "1-", "1.0", "1e3", "0x1", "1_0", "f", "2147483648", "-2147483649", "4294967296", "9223372036854775808", "18446744073709551616", "99999999999999999999999999", "1,2", "\t1", "1\r", "\u0661", "\xff"}
	objects    = []string{"0", "1", "7", "10", "2147483648", "4611686018427387903", "4611686018427387904"}
	noObjects  = []string{"-", "-1", "-0", "00", "07", "+7", "7.0", "0x7", "1_0", "a", "4611686018427387905", "9223372036854775807", "9223372036854775808", "18446744073709551617", "7:5", "\u00667"}
	passes     = []string{"0", "5", "f", "10", "1ff", "ffffffffffffffff", "10000000000000000", strings.Repeat("f", 32)}
	noPasses   = []string{"-", "00", "0f", "F", "1F", "g", "0x5", "-5", "+5", "1_0", "5,7", "1" + strings.Repeat("0", 32), strings.Repeat("f", 33), "5\t"}
	noRights   = []string{"wr", "rr", "r-", "-r", "R", "rwdvxr", "xvdwr", "1", "31", "0", "--", "a", "r,w"}
	rows       = []string{"-", "00", "09", "ff", "0a1b2c3d4e5f", "6789", strings.Repeat("aa", 1025), strings.Repeat("aa", 1026), strings.Repeat("aa", 5000)}
	noRows     = []string{"0", "000", "0A", "A0", "0g", "g0", "--", "-0", "0-", "-00", "0,1", "/0", "0:", "`0", "0x", strings.Repeat("aa", 1025) + "a", "\u00e9"}
	gifts      = []string{"-", "0", "0,0", "1,0,2", "-1", "0,-1", "2147483647,-2147483648", strings.Repeat("0,", 254) + "0", strings.Repeat("0,", 255) + "0"}
	noGifts    = []string{",", "0,", ",0", "0,,0", "-,0", "0,-", "--", "00", "0,00", "-0", "0,-0", "0,2147483648", "0;0", "0,a", "0,+1"}
	drawn      = []string{"-", "0", "5,5", "5,105,ffff,0", strings.Repeat("f", 32) + ",1"}
	noDrawn    = []string{",", "5,", ",5", "5,,5", "-,5", "5,-", "05", "5,00", "F", "5,0x5", "-5", "1" + strings.Repeat("0", 32), "5;5"}
	noVerbs    = []string{"Create", "CREATE", "creat", "creates", "cap", "x", "0", "-", "create1", "\tcreate", "create\r", "cr\x00eate", "kernel", "state", "save", "load", "#", "ok", "error"}
	noSessions = []string{"State", "states", "stat", "state\t", "\tsave", "SAVE", "saves", "load\r", "\vload", "kernel", "ok", "x", "-", "0", "\t", "\r", "\x00", "\u00a0", "\u2003", "\xff", "create", "exit", "read", "spawn"}
)

func masks() []string {
	var out []string
	for r := range api.All + 1 {
		out = append(out, mask.Names(r))
	}
	return out
}

// kind gives the words of a letter's kind, and some that are none.
func kind(letter string) ([]string, []string) {
	switch letter {
	case "N":
		return numbers, noNumbers
	case "O":
		return objects, noObjects
	case "P":
		return passes, noPasses
	case "R":
		return masks(), noRights
	case "B":
		return rows, noRows
	case "L":
		return gifts, noGifts
	case "L'":
		return drawn, noDrawn
	case "exit", "state", "save", "load":
		return []string{letter}, noSessions
	}
	return []string{letter}, noVerbs
}

// table: the lines' forms, as the chapter has them.
var table = []string{
	"kernel N N N N N N N N N N L'",
	"N create N",
	"N destroy O P",
	"N revoke O P",
	"N derive O P R",
	"N read O N N",
	"N read O P N N",
	"N write O N B",
	"N write O P N B",
	"N add O P",
	"N remove N",
	"N exit",
	"N spawn L",
	"state",
	"save",
	"load",
}

// plainly gives a line of a form, of each kind the second word.
func plainly(form string) []string {
	var out []string
	for _, letter := range strings.Fields(form) {
		words, _ := kind(letter)
		out = append(out, words[min(1, len(words)-1)])
	}
	return out
}

// isText tells whether a new session takes a line for one of the table: where there is no kernel, one is refused for that alone.
func isText(line string) bool {
	got := said(script.New(), line)
	return got != "error 22"
}

// P28.1: in each place of each form each word of the place's kind is taken, and no other.
func TestWords(t *testing.T) {
	for _, form := range table {
		for at, letter := range strings.Fields(form) {
			right, wrong := kind(letter)
			words := plainly(form)
			for _, word := range right {
				words[at] = word
				if line := strings.Join(words, " "); !isText(line) {
					t.Errorf("P28.1: %q is refused", line)
				}
			}
			for _, word := range wrong {
				words[at] = word
				if word == letter || strings.HasPrefix(words[0], "#") {
					continue
				}
				if line := strings.Join(words, " "); isText(line) {
					t.Errorf("P28.1: %q is taken: %q", line, said(script.New(), line))
				}
			}
		}
	}
}

// moved tells whether a line of so many words is one of a read or write: of those the one that is given has a word more than the named.
func moved(words []string, many int) bool {
	return len(words) == many && (words[1] == "read" || words[1] == "write")
}

// P28.1: no line has a word too few or too many.
func TestHowManyWords(t *testing.T) {
	for _, form := range table {
		words := plainly(form)
		for at := range words {
			line := strings.Join(slices.Delete(slices.Clone(words), at, at+1), " ")
			if line != "" && isText(line) && !(moved(words, 6) && at > 1) {
				t.Errorf("P28.1: %q is taken", line)
			}
		}
		for at := range len(words) + 1 {
			for _, more := range []string{"0", "1", "-", "r", "##", "5,5", "create", "state", "00ff"} {
				line := strings.Join(slices.Insert(slices.Clone(words), at, more), " ")
				if line[0] != '#' && isText(line) && !(moved(words, 5) && at > 1) {
					t.Errorf("P28.1: %q is taken", line)
				}
			}
		}
	}
	for _, line := range []string{"0 read 1 0", "0 read 1 5 0 1 1", "0 write 1 00", "0 write 1 5 0 00 00", "kernel", "exit", "0", "0 0", "create", "create 0 1", "1 0 create", "0 state", "0 kernel 8 2 3 4 3 2 2 1 1 0 -", "state 0", "save -", "load load"} {
		if isText(line) {
			t.Errorf("P28.1: %q is taken", line)
		}
	}
}

// P28.1: words are parted by runs of blanks, which may stand ahead and behind too, and by nothing else.
func TestBlanks(t *testing.T) {
	s := begun(t, "   kernel 8 2 3  4 3 2 2 1    1 0 5,7 ")
	talks(t, s,
		asked{"  0   create   3  ", "cap 1 5"},
		asked{" state", "object 1 3\ntoken 1 5 rwdvx root\nprocess 0 -\nnext 2 1 1"},
		asked{"0 write 1 5 0 01 02", "error 22"},
		asked{"0 add 1 7\t", "error 22"},
		asked{"0\tadd 1 7", "error 22"},
		asked{"0 add 1\u00a07", "error 22"},
		asked{"0 spawn 0, 0", "error 22"},
		asked{"0 add 1 7\r", "error 22"},
		asked{"0 add\v1 7", "error 22"},
	)
}

// P28.1: what says nothing, and what looks alike.
func TestSilent(t *testing.T) {
	for _, s := range []*script.Session{script.New(), begun(t, smallLine)} {
		for _, line := range []string{"", " ", "     ", "#", "# state", "   #", "#0 create 1", "  ## x", "#\x00\xff\t\r", "# kernel 0 0", "#\u2028"} {
			if got := s.Do(line); len(got) != 0 {
				t.Errorf("P28.1: %q: %q", line, got)
			}
		}
		for _, line := range []string{"state #", "0 create 1 # one", "0 # create", "\t#", "\t", "\u00a0", "\x00", "-#", "\r", "\ufeff#"} {
			if got := said(s, line); got != "error 22" {
				t.Errorf("P28.1: %q: %q", line, got)
			}
		}
	}
}

// P28.1: a line that holds a byte 10 is none, wherever it stands, whatever else there is.
func TestLineEnds(t *testing.T) {
	s := begun(t, smallLine)
	for _, line := range []string{"\n", "# x\n", "\n#", "  \n", "state\n", "\nstate", "0 create 1\n", "0 create\n1", "0\ncreate 1", "0 exit\r\n", "0 exit\n0 exit", smallLine + "\n", "save\n", "load\n"} {
		talks(t, s, asked{line, "error 22"})
	}
	talks(t, s, asked{"load", "error 20"}, asked{"state", "process 0 -\nnext 1 1 0"})
}

// P28.1: where there is no kernel each line of the table but kernel is refused with 20, also one that a kernel would refuse; and so is load where nothing was saved.
func TestNoKernel(t *testing.T) {
	s := script.New()
	for _, form := range table[1:] {
		talks(t, s, asked{strings.Join(plainly(form), " "), "error 20"})
	}
	talks(t, s,
		asked{"-1 create -1", "error 20"},
		asked{"0 spawn -5", "error 20"},
		asked{"0 derive 1 1 -", "error 20"},
		asked{"kernel 0 2 3 4 3 2 2 1 1 0 -", "error 16"},
		asked{"state", "error 20"},
		asked{"0 exit", "error 20"},
		asked{smallLine, "ok"},
		asked{"load", "error 20"},
		asked{"0 exit", "ok"},
		asked{"save", "bytes 48"},
		asked{"load", "ok"},
	)
}

// P28.1: kernel's numbers, each at its bounds; and its words, of which there may be 4096.
func TestConfigs(t *testing.T) {
	least, most := []int{1, 1, 1, 1, 1, 1, 1, 0, 1, 0}, []int{128, 64, 256, 256, 256, 32, 32, 16, 4, 64}
	line := func(at, n int, words string) string {
		out := []string{"kernel"}
		for place, bound := range least {
			if place == at {
				bound = n
			}
			out = append(out, strconv.Itoa(bound))
		}
		return strings.Join(append(out, words), " ")
	}
	for at := range least {
		for n, want := range map[int]string{least[at]: "ok", most[at]: "ok", least[at] - 1: "error 16", most[at] + 1: "error 16", -2147483648: "error 16", 2147483647: "error 16"} {
			for _, s := range []*script.Session{script.New(), begun(t, smallLine)} {
				talks(t, s, asked{line(at, n, "-"), want})
			}
		}
	}
	many := strings.Repeat("5,", 4095)
	talks(t, script.New(),
		asked{bigLine + many + "5", "ok"},
		asked{bigLine + many + "5,5", "error 23"},
		asked{line(0, 0, many+"5,5"), "error 16"},
		asked{"0 create 1", "cap 1 5"},
	)
}

// P28.1: a line that is refused leaves all as it was: the kernel, its draws, what is saved.
func TestRefusedLeavesAll(t *testing.T) {
	s := begun(t, smallLine)
	lines := []string{"kernel 0 2 3 4 3 2 2 1 1 0 1,2,3", "kernel 8 2 3 4 3 2 2 1 1 0 05", bigLine + strings.Repeat("1,", 4096) + "1", "0 create 193", "0 exit 1", "1 exit", "0 derive 1 5 w,r", "x", "save 1", "0 remove 1"}
	talks(t, s, asked{"0 create 65", "cap 1 5"}, asked{"0 add 1 5", "ok"}, asked{"0 write 1 3 0102", "ok"})
	state, size := said(s, "state"), said(s, "save")
	for _, line := range lines {
		if got := said(s, line); !strings.HasPrefix(got, "error ") {
			t.Errorf("P28.1: %q: %q", line, got)
		}
		talks(t, s, asked{"state", state}, asked{"0 read 1 2 4", "bytes 00010200"})
	}
	talks(t, s,
		asked{"save", size},
		asked{"0 derive 1 5 r", "cap 1 7"}, // 105 is cut to 5
		asked{"load", "ok"},
		asked{"state", state},
		asked{"0 derive 1 5 r", "cap 1 7"},
	)
	talks(t, begun(t, "kernel 8 2 3 4 3 2 2 1 1 0 5,5,5"),
		asked{"0 create 1", "cap 1 5"},
		asked{"0 derive 1 5 r", "error 11"},
		asked{"state", "object 1 1\ntoken 1 5 rwdvx root\nprocess 0 -\nnext 2 1 3"}, // what was drawn stays taken
	)
}
