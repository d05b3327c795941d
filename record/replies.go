package record

import (
	"sesame/api"
	"sesame/octet"
)

// noCall stands for the op of bytes that were no call.
const noCall = 0

// isReply: has a reply a form, as the answer to an op?
func isReply(op int, r api.Reply) bool {
	if !within(op, noCall, api.OpExit) || !within(int(r.Code), 0, mostOfTwo) {
		return false
	}
	if r.Code != api.OK {
		return tellsNothing(r)
	}
	return op != noCall &&
		within(r.Cap.Obj, 0, api.MaxId) &&
		within(r.Number, 0, mostOfTwo) &&
		len(r.Data) <= api.MaxMove &&
		tellsNothing(untold(op, r))
}

// untold gives a reply without what its op tells.
func untold(op int, r api.Reply) api.Reply {
	switch op {
	case api.OpCreate, api.OpDerive:
		r.Cap = api.Cap{}
	case api.OpRead:
		r.Data = nil
	case api.OpSpawn:
		r.Number = 0
	}
	return r
}

// tellsNothing: has a reply nothing but a code?
func tellsNothing(r api.Reply) bool {
	return r.Cap == api.Cap{} && len(r.Data) == 0 && r.Number == 0
}

// layReply lays a reply that has a form.
func layReply(op int, r api.Reply) []byte {
	code := octet.Put(nil, uint16(r.Code))
	if r.Code != api.OK {
		return code
	}
	return octet.Join(code, layTold(op, r))
}

// layTold gives the row of what an op tells. It may be the reply's own memory, as who joins the rows copies them.
func layTold(op int, r api.Reply) []byte {
	switch op {
	case api.OpCreate, api.OpDerive:
		row, _ := octet.PutCap(nil, r.Cap) // the form has seen to its bounds
		return row
	case api.OpRead:
		return r.Data
	case api.OpSpawn:
		return octet.Put(nil, uint16(r.Number))
	}
	return nil
}

// readReply reads what stands for a reply; whether it has a form is not asked here.
func readReply(op int, r *octet.Reader) api.Reply {
	reply := api.Reply{Code: api.Errno(must(r.Int(twoBytes, mostOfTwo)))}
	if reply.Code != api.OK {
		return reply
	}
	switch op {
	case api.OpCreate, api.OpDerive:
		reply.Cap = must(r.Cap())
	case api.OpRead:
		reply.Data = rest(r, api.MaxMove)
	case api.OpSpawn:
		reply.Number = must(r.Int(twoBytes, mostOfTwo))
	}
	return reply
}
