package apart

import (
	"sesame/api"
	"sesame/kernel"
)

// step is a call of a run, with what came of it.
type step struct {
	call  api.Call
	reply api.Reply
	taken int // how many draws the call took
}

// run is a kernel that is asked call by call, and how many of its draws were taken so far.
type run struct {
	k            *kernel.Kernel
	drawn, draws int
}

// begin gives a run of which no call is done yet.
func begin(c api.Config, draws []api.Word) (*run, api.Errno) {
	k, code := kernel.New(c, draws)
	if code != api.OK {
		return nil, code
	}
	return &run{k: k, draws: len(draws)}, api.OK
}

func (r *run) do(c api.Call) step {
	reply := r.k.Do(c)
	return step{call: c, reply: reply, taken: r.took(c.Op, reply.Code)}
}

// took tells how many draws the last call took. The kernel tells that by a whole State alone, so it is asked no more often than there are draws to take.
func (r *run) took(op int, code api.Errno) int {
	if r.drawn == r.draws || !mayDraw(op, code) {
		return 0
	}
	before := r.drawn
	r.drawn = r.k.State().Taken
	return r.drawn - before
}

// mayDraw tells whether a call that was answered so may have taken draws.
func mayDraw(op int, code api.Errno) bool {
	if op != api.OpCreate && op != api.OpDerive {
		return false
	}
	return code == api.OK || code == api.ErrDraws || code == api.ErrTwin
}
