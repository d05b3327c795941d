package image

import (
	"sesame/api"
	"sesame/octet"
)

// lay gives the bytes of a state that keeps all rules: each number fits its bytes.
func lay(c api.Config, s api.State) []byte {
	return octet.Join(
		[]byte(mark),
		layConfig(c),
		octet.Put(nil, uint64(s.NextId)),
		octet.Put(nil, uint32(s.NextProc)),
		layTwo(s.Taken),
		layObjects(s.Objects),
		layTokens(s.Tokens),
		layProcesses(s.Processes),
	)
}

func layTwo(n int) []byte { return octet.Put(nil, uint16(n)) }

func layConfig(c api.Config) []byte {
	var rows [][]byte
	for _, n := range []int{c.Width, c.Objects, c.Pages, c.Entries, c.Quota, c.Procs, c.List, c.Sets, c.Ways, c.Knob} {
		rows = append(rows, layTwo(n))
	}
	return octet.Join(rows...)
}

func layObjects(objects []api.Object) []byte {
	rows := [][]byte{layTwo(len(objects))}
	for _, o := range objects {
		rows = append(rows, octet.Put(nil, uint64(o.Id)), layTwo(len(o.Bytes)), o.Bytes)
	}
	return octet.Join(rows...)
}

func layTokens(tokens []api.Token) []byte {
	rows := [][]byte{layTwo(len(tokens))}
	for _, token := range tokens {
		rows = append(rows, layCap(token.Cap), octet.Put(nil, uint8(token.Rights)), layParent(token.Parent))
	}
	return octet.Join(rows...)
}

func layParent(place int) []byte {
	if place == none {
		return layTwo(noneLaid)
	}
	return layTwo(place)
}

func layProcesses(processes []api.Process) []byte {
	rows := [][]byte{layTwo(len(processes))}
	for _, p := range processes {
		rows = append(rows, layTwo(p.Number), octet.Put(nil, uint8(len(p.List))))
		for _, x := range p.List {
			rows = append(rows, layCap(x))
		}
	}
	return octet.Join(rows...)
}

// layCap lays a capability whose object's number the rules have looked at: it is not refused.
func layCap(x api.Cap) []byte {
	row, _ := octet.PutCap(nil, x)
	return row
}
