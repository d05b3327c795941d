package record

import (
	"math"

	"sesame/api"
	"sesame/octet"
	"sesame/wide"
)

// part is a field of a call, as it lies in bytes.
type part int

const (
	size part = iota
	object
	word
	given
	rights
	offset
	count
	data
	index
	gifts
)

// partsOf tells which parts follow the caller, in their order. It alone says what an op uses: laying, reading and the form go by it. Exit uses none.
func partsOf(op int) []part {
	switch op {
	case api.OpCreate:
		return []part{size}
	case api.OpDestroy, api.OpRevoke, api.OpAdd:
		return []part{object, word}
	case api.OpDerive:
		return []part{object, word, rights}
	case api.OpRead:
		return []part{object, given, word, offset, count}
	case api.OpWrite:
		return []part{object, given, word, offset, data}
	case api.OpRemove:
		return []part{index}
	case api.OpSpawn:
		return []part{gifts}
	}
	return nil
}

// isCall: has a call a form?
func isCall(c api.Call) bool {
	return within(c.Op, api.OpCreate, api.OpExit) && inBounds(c) && wordMayStand(c) && isBlank(unused(c))
}

// inBounds asks all fields, whatever the op uses: a field that it doesn't use is to be zero, which is in bounds.
func inBounds(c api.Call) bool {
	return within(c.By, 0, mostOfTwo) &&
		isSigned(c.Size) && isSigned(c.Off) && isSigned(c.N) &&
		within(c.Cap.Obj, 0, api.MaxId) &&
		within(c.Rights, 0, mostOfOne) &&
		within(c.Index, 0, mostOfTwo) &&
		len(c.Data) <= mostWritten &&
		areGifts(c.Gifts)
}

func isSigned(n int) bool { return within(n, math.MinInt32, math.MaxInt32) }

func areGifts(places []int) bool {
	if len(places) > mostOfOne {
		return false
	}
	for _, place := range places {
		if !within(place, 0, mostOfTwo) {
			return false
		}
	}
	return true
}

// wordMayStand: a read or write that names its object alone has no word, or one call would have many forms.
func wordMayStand(c api.Call) bool {
	if c.Op != api.OpRead && c.Op != api.OpWrite {
		return true
	}
	return c.Given || c.Cap.Pass == api.Word{}
}

// unused gives a call without the parts that its op uses.
func unused(c api.Call) api.Call {
	for _, p := range partsOf(c.Op) {
		c = without(c, p)
	}
	return c
}

func without(c api.Call, p part) api.Call {
	switch p {
	case size:
		c.Size = 0
	case object:
		c.Cap.Obj = 0
	case word:
		c.Cap.Pass = api.Word{}
	case given:
		c.Given = false
	case rights:
		c.Rights = 0
	case offset:
		c.Off = 0
	case count:
		c.N = 0
	case data:
		c.Data = nil
	case index:
		c.Index = 0
	case gifts:
		c.Gifts = nil
	}
	return c
}

// isBlank: has a call nothing but an op and a caller?
func isBlank(c api.Call) bool {
	return c.Size == 0 && c.Cap == api.Cap{} && !c.Given && c.Rights == 0 &&
		c.Off == 0 && c.N == 0 && len(c.Data) == 0 && c.Index == 0 && len(c.Gifts) == 0
}

// layCall lays a call that has a form: each number fits its bytes.
func layCall(c api.Call) []byte {
	rows := [][]byte{octet.Put(nil, uint8(c.Op)), octet.Put(nil, uint16(c.By))}
	for _, p := range partsOf(c.Op) {
		rows = append(rows, layPart(c, p))
	}
	return octet.Join(rows...)
}

// layPart gives the row of a part. It may be the call's own memory, as who joins the rows copies them.
func layPart(c api.Call, p part) []byte {
	switch p {
	case size:
		return laySigned(c.Size)
	case object:
		return octet.Put(nil, uint64(c.Cap.Obj))
	case word:
		return wide.Bytes(c.Cap.Pass)
	case given:
		return layFlag(c.Given)
	case rights:
		return octet.Put(nil, uint8(c.Rights))
	case offset:
		return laySigned(c.Off)
	case count:
		return laySigned(c.N)
	case data:
		return c.Data
	case index:
		return octet.Put(nil, uint16(c.Index))
	case gifts:
		return layGifts(c.Gifts)
	}
	return nil
}

func laySigned(n int) []byte { return octet.Put(nil, uint32(n)) }

func layFlag(yes bool) []byte {
	if yes {
		return octet.Put(nil, uint8(1))
	}
	return octet.Put(nil, uint8(0))
}

func layGifts(places []int) []byte {
	rows := [][]byte{octet.Put(nil, uint8(len(places)))}
	for _, place := range places {
		rows = append(rows, octet.Put(nil, uint16(place)))
	}
	return octet.Join(rows...)
}

// readCall reads what stands for a call; whether it has a form is not asked here.
func readCall(r *octet.Reader) api.Call {
	c := api.Call{Op: must(r.Int(oneByte, mostOfOne)), By: must(r.Int(twoBytes, mostOfTwo))}
	for _, p := range partsOf(c.Op) {
		c = readPart(r, c, p)
	}
	return c
}

// readPart gives the call with a part that is read.
func readPart(r *octet.Reader, c api.Call, p part) api.Call {
	switch p {
	case size:
		c.Size = readSigned(r)
	case object:
		c.Cap.Obj = must(r.Int(eightBytes, api.MaxId))
	case word:
		c.Cap.Pass = must(r.Word())
	case given:
		c.Given = must(r.Int(oneByte, 1)) == 1
	case rights:
		c.Rights = must(r.Int(oneByte, mostOfOne))
	case offset:
		c.Off = readSigned(r)
	case count:
		c.N = readSigned(r)
	case data:
		c.Data = rest(r, mostWritten)
	case index:
		c.Index = must(r.Int(twoBytes, mostOfTwo))
	case gifts:
		c.Gifts = readGifts(r)
	}
	return c
}

func readSigned(r *octet.Reader) int { return int(int32(must(r.Number(fourBytes)))) }

func readGifts(r *octet.Reader) []int {
	var places []int
	for range must(r.Int(oneByte, mostOfOne)) {
		places = append(places, must(r.Int(twoBytes, mostOfTwo)))
	}
	return places
}
