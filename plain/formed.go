package plain

import (
	"math"

	"sesame/api"
)

const (
	mostRights  = 255
	mostPlace   = 65535 // of a list: more than any has
	mostGifts   = 255
	mostWritten = api.MaxMove + 1
)

// isCall tells whether a call is one: layer 20's rule, written out, as the model doesn't call that layer.
func isCall(c api.Call) bool {
	return within(c.Op, api.OpCreate, api.OpExit) &&
		within(c.By, 0, api.MaxNumber) &&
		inBounds(c) && onlyUsed(c) && wordMayStand(c)
}

// inBounds asks all fields, be they used or not: zero, which those that are not used must be, is in all bounds.
func inBounds(c api.Call) bool {
	return is32(c.Size) && is32(c.Off) && is32(c.N) &&
		within(c.Cap.Obj, 0, api.MaxId) &&
		within(c.Rights, 0, mostRights) &&
		len(c.Data) <= mostWritten &&
		within(c.Index, 0, mostPlace) &&
		areGifts(c.Gifts)
}

func is32(n int) bool { return within(n, math.MinInt32, math.MaxInt32) }

func areGifts(places []int) bool {
	if len(places) > mostGifts {
		return false
	}
	for _, place := range places {
		if !within(place, 0, mostPlace) {
			return false
		}
	}
	return true
}

// onlyUsed tells whether each field is zero, or used by the Op.
func onlyUsed(c api.Call) bool {
	return (c.Size == 0 || c.Op == api.OpCreate) &&
		(c.Cap == api.Cap{} || usesCap(c.Op)) &&
		(!c.Given || isMove(c.Op)) &&
		(c.Rights == 0 || c.Op == api.OpDerive) &&
		(c.Off == 0 || isMove(c.Op)) &&
		(c.N == 0 || c.Op == api.OpRead) &&
		(len(c.Data) == 0 || c.Op == api.OpWrite) &&
		(c.Index == 0 || c.Op == api.OpRemove) &&
		(len(c.Gifts) == 0 || c.Op == api.OpSpawn)
}

func usesCap(op int) bool {
	switch op {
	case api.OpDestroy, api.OpDerive, api.OpRevoke, api.OpAdd:
		return true
	}
	return isMove(op)
}

// isMove tells whether a call moves bytes, and so may name an object alone.
func isMove(op int) bool { return op == api.OpRead || op == api.OpWrite }

// wordMayStand: a call that names an object alone has no word.
func wordMayStand(c api.Call) bool {
	return !isMove(c.Op) || c.Given || c.Cap.Pass == api.Word{}
}
