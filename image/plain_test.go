package image_test

import (
	"encoding/binary"
	"slices"

	"sesame/api"
)

// What the package is held against: the chapter's form and rules, read plainly. They share nothing with it.

// plainBytes lays a state by the chapter's form, also one that breaks rules.
func plainBytes(c api.Config, s api.State) []byte {
	le := binary.LittleEndian
	b := []byte("sesame 1")
	for _, n := range numbers(&c) {
		b = le.AppendUint16(b, uint16(*n))
	}
	b = le.AppendUint64(b, uint64(s.NextId))
	b = le.AppendUint32(b, uint32(s.NextProc))
	b = le.AppendUint16(b, uint16(s.Taken))
	putCap := func(x api.Cap) {
		b = le.AppendUint64(b, uint64(x.Obj))
		b = le.AppendUint64(b, x.Pass.Lo)
		b = le.AppendUint64(b, x.Pass.Hi)
	}
	b = le.AppendUint16(b, uint16(len(s.Objects)))
	for _, o := range s.Objects {
		b = le.AppendUint64(b, uint64(o.Id))
		b = le.AppendUint16(b, uint16(len(o.Bytes)))
		b = append(b, o.Bytes...)
	}
	b = le.AppendUint16(b, uint16(len(s.Tokens)))
	for _, x := range s.Tokens {
		putCap(x.Cap)
		b = append(b, byte(x.Rights))
		b = le.AppendUint16(b, uint16(x.Parent))
	}
	b = le.AppendUint16(b, uint16(len(s.Processes)))
	for _, p := range s.Processes {
		b = le.AppendUint16(b, uint16(p.Number))
		b = append(b, byte(len(p.List)))
		for _, x := range p.List {
			putCap(x)
		}
	}
	return b
}

// plainCheck goes by the rules' words, one behind the other.
func plainCheck(c api.Config, s api.State, draws int) int {
	for at, n := range numbers(&c) {
		if *n < bounds()[at][0] || *n > bounds()[at][1] {
			return 1
		}
	}
	if !plainObjects(c, s) {
		return 2
	}
	if s.NextId < 1 || s.NextId > 1<<62+1 || slices.ContainsFunc(s.Objects, func(o api.Object) bool { return o.Id >= s.NextId }) {
		return 3
	}
	if !plainTokens(c, s) {
		return 4
	}
	if !plainKin(s) {
		return 5
	}
	if !plainWords(c, s) {
		return 6
	}
	if !plainProcesses(c, s) {
		return 7
	}
	if s.Taken < 0 || s.Taken > draws {
		return 8
	}
	return 0
}

func plainObjects(c api.Config, s api.State) bool {
	pages := 0
	for at, o := range s.Objects {
		if o.Id < 1 || o.Id > 1<<62 || at > 0 && o.Id <= s.Objects[at-1].Id || len(o.Bytes) > 4096 {
			return false
		}
		pages += len(o.Bytes) / 64
		if len(o.Bytes)%64 != 0 {
			pages++
		}
	}
	return len(s.Objects) <= c.Objects && pages <= c.Pages
}

func plainTokens(c api.Config, s api.State) bool {
	order, count := map[int]int{}, map[int]int{}
	for at, o := range s.Objects {
		order[o.Id] = at
	}
	last := 0
	for _, x := range s.Tokens {
		at, there := order[x.Cap.Obj]
		if !there || at < last {
			return false
		}
		last = at
		count[x.Cap.Obj]++
	}
	for _, o := range s.Objects {
		if count[o.Id] < 1 || count[o.Id] > c.Quota {
			return false
		}
	}
	return len(s.Tokens) <= c.Entries
}

// plainKin keeps the way from the token just ahead up to its root, as a list.
func plainKin(s api.State) bool {
	var way []int
	obj := 0
	for at, x := range s.Tokens {
		if x.Cap.Obj != obj {
			if x.Parent != -1 || x.Rights != 31 {
				return false
			}
			obj, way = x.Cap.Obj, []int{at}
			continue
		}
		place := slices.Index(way, x.Parent)
		if place < 0 || x.Rights < 1 || x.Rights > 31 {
			return false
		}
		if x.Rights&^s.Tokens[x.Parent].Rights != 0 {
			return false
		}
		way = append(way[:place+1], at)
	}
	return true
}

func plainFits(w api.Word, width int) bool {
	if width > 64 {
		return width >= 128 || w.Hi>>(width-64) == 0
	}
	return w.Hi == 0 && (width == 64 || w.Lo>>width == 0)
}

func plainWords(c api.Config, s api.State) bool {
	for at, x := range s.Tokens {
		if !plainFits(x.Cap.Pass, c.Width) {
			return false
		}
		for _, y := range s.Tokens[:at] {
			if x.Cap == y.Cap {
				return false
			}
		}
	}
	return true
}

func plainProcesses(c api.Config, s api.State) bool {
	for at, p := range s.Processes {
		if p.Number < 0 || p.Number > 65535 || at > 0 && p.Number <= s.Processes[at-1].Number || p.Number >= s.NextProc || len(p.List) > c.List {
			return false
		}
		for _, x := range p.List {
			if x.Obj < 0 || x.Obj > 1<<62 || !plainFits(x.Pass, c.Width) {
				return false
			}
		}
	}
	return len(s.Processes) <= c.Procs && s.NextProc >= 1 && s.NextProc <= 65536
}
