package apart

import "sesame/api"

// parting is how a process is taken out of a run: which one, and what makes a call of it quiet.
type parting struct {
	proc  int
	quiet func(s step) bool
}

func without(p int) parting { return parting{proc: p, quiet: harmless} }

// harmless tells whether a call can change nothing for others but bytes: a read, a write, or one that was refused and took no draw.
func harmless(s step) bool {
	switch s.call.Op {
	case api.OpRead, api.OpWrite:
		return true
	}
	return s.reply.Code != api.OK && s.taken == 0
}

// leavesOut tells whether a step of the run of all is none of the rest.
func (a parting) leavesOut(s step) bool {
	return s.call.By == a.proc && a.quiet(s)
}

// seen runs the rest beside the run of all, call by call: neither knows of the other, so it is as if the rest were run alone, and no replies have to be kept.
func (a parting) seen(c api.Config, draws []api.Word, calls []api.Call) (int, api.Errno) {
	all, code := begin(c, draws)
	if code != api.OK {
		return 0, code
	}
	rest, _ := begin(c, draws) // as the one above: it is not refused
	marks := marksOf(a.proc)
	for place, call := range calls {
		s := all.do(call)
		stains := marks.hear(s)
		if a.leavesOut(s) {
			continue
		}
		other := rest.do(call)
		if call.By != a.proc && !alike(s.reply, other.reply, stains) {
			return place, api.OK
		}
	}
	return none, api.OK
}

// alike tells whether two replies are the same, but for bytes at the stains.
func alike(x, y api.Reply, stains []int) bool {
	if x.Code != y.Code || x.Cap != y.Cap || x.Number != y.Number || len(x.Data) != len(y.Data) {
		return false
	}
	for place, b := range x.Data {
		if len(stains) > 0 && stains[0] == place {
			stains = stains[1:] // they rise
			continue
		}
		if b != y.Data[place] {
			return false
		}
	}
	return true
}
