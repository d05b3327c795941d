package script

import (
	"strconv"
	"strings"

	"sesame/api"
	"sesame/mask"
	"sesame/wide"
)

// spoken gives words as a line.
func spoken(words ...string) string { return strings.Join(words, " ") }

func done() []string { return []string{"ok"} }

func refusal(code api.Errno) []string {
	return []string{spoken("error", strconv.Itoa(int(code)))}
}

func tellSize(n int) []string {
	return []string{spoken("bytes", strconv.Itoa(n))}
}

// tellReply tells what a call was answered that was not refused.
func tellReply(op int, r api.Reply) []string {
	switch op {
	case api.OpCreate, api.OpDerive:
		return []string{spoken("cap", capText(r.Cap, " "))}
	case api.OpRead:
		return []string{spoken("bytes", dataText(r.Data))}
	case api.OpSpawn:
		return []string{spoken("process", strconv.Itoa(r.Number))}
	}
	return done()
}

func tellState(s api.State) []string {
	var out []string
	for _, o := range s.Objects {
		out = append(out, spoken("object", strconv.Itoa(o.Id), strconv.Itoa(len(o.Bytes))))
	}
	for _, t := range s.Tokens {
		out = append(out, spoken("token", capText(t.Cap, " "), mask.Names(t.Rights), parentText(s.Tokens, t)))
	}
	for _, p := range s.Processes {
		out = append(out, spoken("process", strconv.Itoa(p.Number), listText(p.List)))
	}
	return append(out, spoken("next", strconv.Itoa(s.NextId), strconv.Itoa(s.NextProc), strconv.Itoa(s.Taken)))
}

func capText(c api.Cap, between string) string {
	return strconv.Itoa(c.Obj) + between + wide.Text(c.Pass)
}

func parentText(tokens []api.Token, t api.Token) string {
	if t.Parent < 0 {
		return "root"
	}
	return capText(tokens[t.Parent].Cap, " ")
}

func listText(l []api.Cap) string {
	if len(l) == 0 {
		return nothing
	}
	var out []string
	for _, c := range l {
		out = append(out, capText(c, ":"))
	}
	return strings.Join(out, comma)
}

func dataText(b []byte) string {
	if len(b) == 0 {
		return nothing
	}
	out := make([]byte, 0, 2*len(b))
	for _, x := range b {
		out = append(out, digits[x>>4], digits[x&15])
	}
	return string(out)
}
