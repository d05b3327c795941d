package script_test

import (
	"testing"

	"sesame/script"
)

// P28.1: load finds what was saved last, as often as it is asked: what is done with the kernel that it makes changes nothing of it.
func TestLoadAgain(t *testing.T) {
	s := begun(t, "kernel 8 4 3 4 3 3 2 1 1 0 5,6,7")
	talks(t, s,
		asked{"save", "bytes 51"},
		asked{"0 create 2", "cap 1 5"},
		asked{"0 write 1 5 0 aabb", "ok"},
		asked{"0 add 1 5", "ok"},
		asked{"0 spawn 0", "process 1"},
		asked{"save", "bytes 141"},
	)
	state := "object 1 2\ntoken 1 5 rwdvx root\nprocess 0 1:5\nprocess 1 1:5\nnext 2 2 1"
	for range 3 {
		talks(t, s,
			asked{"load", "ok"},
			asked{"state", state},
			asked{"1 read 1 0 2", "bytes aabb"},
			asked{"0 write 1 5 0 0000", "ok"},
			asked{"0 create 0", "cap 2 6"},
			asked{"1 revoke 1 5", "ok"},
			asked{"1 exit", "ok"},
			asked{"0 remove 0", "ok"},
			asked{"state", "object 2 0\ntoken 2 6 rwdvx root\nprocess 0 -\nnext 3 2 2"},
		)
	}
	talks(t, s,
		asked{"save", "bytes 88"},
		asked{"0 destroy 2 6", "ok"},
		asked{"load", "ok"},
		asked{"0 read 2 6 0 0", "bytes -"},
		asked{"0 create 0", "cap 3 7"},
	)
}

// P28.1: what is saved stays behind kernel; load takes the draws of the last kernel line that was answered ok, and the Config that was saved.
func TestLoadBehindKernel(t *testing.T) {
	s := begun(t, "kernel 8 3 3 4 3 2 2 1 1 0 5,6,7")
	talks(t, s,
		asked{"0 create 65", "cap 1 5"},
		asked{"0 derive 1 5 r", "cap 1 6"},
		asked{"save", "bytes 180"},
		asked{"kernel 4 1 1 1 1 1 1 0 1 0 1,2,39", "ok"},
		asked{"state", "process 0 -\nnext 1 1 0"},
		asked{"0 create 65", "error 8"},
		asked{"load", "ok"},
		asked{"state", "object 1 65\ntoken 1 5 rwdvx root\ntoken 1 6 r 1 5\nprocess 0 -\nnext 2 1 2"},
		asked{"0 create 1", "cap 2 39"}, // of the later line's draws, by the width that was saved
		asked{"0 create 1", "error 8"},
		asked{"kernel 4 1 1 1 1 1 1 0 1 65 a,b,c", "error 16"},
		asked{"kernel 4 1 1 1 1 1 1 0 1 0 a,b,", "error 22"},
		asked{"load", "ok"},
		asked{"0 create 1", "cap 2 39"},
	)
}

// P28.1: load is refused, if the draws are fewer than were taken; the kernel stays, and so does what was saved.
func TestLoadWithFewDraws(t *testing.T) {
	s := begun(t, "kernel 8 3 3 4 3 2 2 1 1 0 5,6,7")
	talks(t, s,
		asked{"0 create 1", "cap 1 5"},
		asked{"0 derive 1 5 r", "cap 1 6"},
		asked{"save", "bytes 116"},
		asked{"kernel 8 3 3 4 3 2 2 1 1 0 9", "ok"},
		asked{"0 create 3", "cap 1 9"},
		asked{"load", "error 21"},
		asked{"state", "object 1 3\ntoken 1 9 rwdvx root\nprocess 0 -\nnext 2 1 1"},
		asked{"kernel 8 3 3 4 3 2 2 1 1 0 9,8", "ok"},
		asked{"load", "ok"},
		asked{"state", "object 1 1\ntoken 1 5 rwdvx root\ntoken 1 6 r 1 5\nprocess 0 -\nnext 2 1 2"},
		asked{"0 create 1", "error 11"},
		asked{"kernel 8 3 3 4 3 2 2 1 1 0 -", "ok"},
		asked{"load", "error 21"},
		asked{"save", "bytes 51"},
		asked{"load", "ok"},
		asked{"state", "process 0 -\nnext 1 1 0"},
	)
}

// P28.1: sessions share nothing: what one is told, has saved, or has for a kernel another does not find.
func TestSessionsApart(t *testing.T) {
	one, other := begun(t, smallLine), begun(t, smallLine)
	talks(t, one, asked{"0 create 1", "cap 1 5"}, asked{"save", "bytes 89"})
	talks(t, other, asked{"load", "error 20"}, asked{"state", "process 0 -\nnext 1 1 0"}, asked{"0 create 2", "cap 1 5"}, asked{"save", "bytes 90"})
	talks(t, one, asked{"0 exit", "ok"}, asked{"load", "ok"}, asked{"state", "object 1 1\ntoken 1 5 rwdvx root\nprocess 0 -\nnext 2 1 1"})
	talks(t, script.New(), asked{"state", "error 20"}, asked{"load", "error 20"})
}

// written writes over all of an answer, its spare room too.
func written(list []string) {
	list = list[:cap(list)]
	for at := range list {
		list[at] = "?"
	}
}

// An answer's list is new memory: written over, it changes no later answer, and no other.
func TestAnswersAreNew(t *testing.T) {
	lines := []string{"x", "state", smallLine, "0 create 65", "0 add 1 5", "0 write 1 5 0 09", "0 read 1 0 1", "0 read 1 1 0 1", "0 spawn 0", "state", "save", "load", "1 exit", "1 exit", "", "0 create 1\n", "state", "load"}
	one, other := script.New(), script.New()
	for _, line := range lines {
		want := said(one, line)
		first := other.Do(line)
		kept := append([]string{}, first...)
		if line == "state" || line == "x" || line == "save" {
			second := other.Do(line)
			written(second)
		}
		for at := range kept {
			if first[at] != kept[at] {
				t.Errorf("rule 2: %q: two answers share memory", line)
			}
		}
		written(first)
		got := ""
		for at, l := range kept {
			if at > 0 {
				got += "\n"
			}
			got += l
		}
		if got != want {
			t.Errorf("rule 2: %q: %q, want %q", line, got, want)
		}
	}
}
