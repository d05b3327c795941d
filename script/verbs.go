package script

import (
	"strings"

	"sesame/api"
)

// What a session is asked for itself stands behind the calls' numbers.
const (
	opKernel = api.OpExit + 1 + iota
	opState
	opSave
	opLoad
)

// itself is the letter of a form where the verb stands.
const itself = '.'

// verb is a word, what is asked for by it, and the form of the lines that have it: a letter a word, which request's take reads.
type verb struct {
	name  string
	op    int
	given bool
	form  string
}

// verbs: no two of one name have forms of one length.
var verbs = [...]verb{
	{"kernel", opKernel, false, ".ccccccccccw"},
	{"create", api.OpCreate, false, "b.s"},
	{"destroy", api.OpDestroy, false, "b.op"},
	{"revoke", api.OpRevoke, false, "b.op"},
	{"derive", api.OpDerive, false, "b.opr"},
	{"read", api.OpRead, false, "b.ofn"},
	{"read", api.OpRead, true, "b.opfn"},
	{"write", api.OpWrite, false, "b.ofd"},
	{"write", api.OpWrite, true, "b.opfd"},
	{"add", api.OpAdd, false, "b.op"},
	{"remove", api.OpRemove, false, "b.i"},
	{"exit", api.OpExit, false, "b."},
	{"spawn", api.OpSpawn, false, "b.g"},
	{"state", opState, false, "."},
	{"save", opSave, false, "."},
	{"load", opLoad, false, "."},
}

// request is what a line asks for.
type request struct {
	op      int
	call    api.Call   // if op is a call's
	numbers []int      // of a kernel line, in the order of api.Config
	draws   []api.Word // likewise
}

// read gives what a line's words ask for.
func read(words []string) (request, api.Errno) {
	for _, v := range verbs {
		if v.stands(words) {
			return v.read(words)
		}
	}
	return request{}, api.ErrText
}

// stands tells whether a line is one of this verb, if it is any's.
func (v verb) stands(words []string) bool {
	return len(words) == len(v.form) && words[strings.IndexByte(v.form, itself)] == v.name
}

func (v verb) read(words []string) (request, api.Errno) {
	r := request{op: v.op, call: api.Call{Op: v.op, Given: v.given}}
	for at, word := range words {
		if v.form[at] != itself && !r.take(v.form[at], word) {
			return request{}, api.ErrText
		}
	}
	return r, api.OK
}

// take reads a word as the form's letter says, and tells whether it could be.
func (r *request) take(letter byte, word string) bool {
	ok := false
	switch letter {
	case 'b':
		r.call.By, ok = number(word)
	case 's':
		r.call.Size, ok = number(word)
	case 'o':
		r.call.Cap.Obj, ok = object(word)
	case 'p':
		r.call.Cap.Pass, ok = password(word)
	case 'r':
		r.call.Rights, ok = rights(word)
	case 'f':
		r.call.Off, ok = number(word)
	case 'n':
		r.call.N, ok = number(word)
	case 'd':
		r.call.Data, ok = data(word)
	case 'i':
		r.call.Index, ok = number(word)
	case 'g':
		r.call.Gifts, ok = listed(word, number)
	case 'c':
		var n int
		n, ok = number(word)
		r.numbers = append(r.numbers, n)
	case 'w':
		r.draws, ok = listed(word, password)
	}
	return ok
}

// config gives the Config of a kernel line's ten numbers.
func config(n []int) api.Config {
	return api.Config{
		Width:   n[0],
		Objects: n[1],
		Pages:   n[2],
		Entries: n[3],
		Quota:   n[4],
		Procs:   n[5],
		List:    n[6],
		Sets:    n[7],
		Ways:    n[8],
		Knob:    n[9],
	}
}
