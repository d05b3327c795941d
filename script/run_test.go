package script_test

import (
	"strings"
	"testing"

	"sesame/api"
	"sesame/script"
)

// saidAll gives what the lines are answered by a new session, one behind the other.
func saidAll(lines []string) string {
	var out strings.Builder
	s := script.New()
	for _, line := range lines {
		for _, answer := range s.Do(line) {
			out.WriteString(answer + "\n")
		}
	}
	return out.String()
}

// P28.2: texts and their answers; the last line may lack its end.
func TestRun(t *testing.T) {
	for _, c := range []struct{ text, want string }{
		{"", ""},
		{"\n", ""},
		{"\n\n  \n#\n# x", ""},
		{"state", "error 20\n"},
		{"state\n", "error 20\n"},
		{"\nstate\n\n", "error 20\n"},
		{"state\nstate\n", "error 20\nerror 20\n"},
		{"state\r\n", "error 22\n"},
		{"state\rstate", "error 22\n"},
		{"\t", "error 22\n"},
		{smallLine + "\n0 create 65\n0 add 1 5\n\n# all there is\nstate\n1 exit\n0 read 1 64 1", "ok\ncap 1 5\nok\nobject 1 65\ntoken 1 5 rwdvx root\nprocess 0 1:5\nnext 2 1 1\nerror 2\nbytes 00\n"},
		{"save\n" + smallLine + "\nsave\n" + smallLine + "\nload\n0 exit\nload\nstate\n", "error 20\nok\nbytes 51\nok\nok\nok\nok\nprocess 0 -\nnext 1 1 0\n"},
	} {
		for range 2 { // each run is of a new session
			if got := script.Run(c.text); got != c.want {
				t.Errorf("P28.2: Run(%q) = %q, want %q", c.text, got, c.want)
			}
		}
	}
}

// P28.2: a text of more than MaxText bytes, or of more than MaxLines lines, is refused whole; the last line counts too, if anything stands in it.
func TestBounds(t *testing.T) {
	const refused = "error 22\n"
	line := "state\n"
	answer := "error 20\n"
	long := "state" + strings.Repeat(" ", api.MaxText-5)
	for _, c := range []struct{ text, want string }{
		{strings.Repeat("\n", api.MaxLines), ""},
		{strings.Repeat("\n", api.MaxLines) + "#", refused},
		{strings.Repeat("\n", api.MaxLines) + " ", refused},
		{strings.Repeat("\n", api.MaxLines-1) + "#", ""},
		{strings.Repeat("\n", api.MaxLines-1) + "state", answer},
		{strings.Repeat("\n", api.MaxLines+1), refused},
		{strings.Repeat(line, api.MaxLines), strings.Repeat(answer, api.MaxLines)},
		{strings.Repeat(line, api.MaxLines) + "\n", refused},
		{strings.Repeat(line, api.MaxLines) + "state", refused},
		{strings.TrimSuffix(strings.Repeat(line, api.MaxLines), "\n"), strings.Repeat(answer, api.MaxLines)},
		{long, answer},
		{long + " ", refused},
		{long[1:] + "\n", refused},
		{"#" + long[1:], ""},
		{"#" + long, refused},
		{long[:len(long)-1] + "\n", answer},
		{long + "\n", refused},
		{strings.Repeat("\n", api.MaxText), refused},
		{strings.Repeat("\n", api.MaxText+1), refused},
		{strings.Repeat("\u00e9", api.MaxText/2), refused}, // one line, which is none: bytes count, not runes
		{"#" + strings.Repeat("\u00e9", api.MaxText/2-1), ""},
		{"#" + strings.Repeat("\u00e9", api.MaxText/2), refused},
	} {
		if got := script.Run(c.text); got != c.want {
			t.Errorf("P28.2: Run of %d bytes, %d ends: %.40q, want %.40q", len(c.text), strings.Count(c.text, "\n"), got, c.want)
		}
	}
	if got := saidAll([]string{long + strings.Repeat(" ", api.MaxText)}); got != answer {
		t.Errorf("P28.1: a line of any length is one: %q", got)
	}
}
