package mix_test

import (
	"math"
	"math/big"
	"math/rand"
	"testing"

	"sesame/api"
	"sesame/mix"
)

const allBits = 64

// power gives 2^n as a big number.
func power(n int) *big.Int { return new(big.Int).Lsh(big.NewInt(1), uint(n)) }

func bigOf(t *testing.T, hex string) *big.Int {
	t.Helper()
	n, ok := new(big.Int).SetString(hex, 16)
	if !ok {
		t.Fatalf("no number: %q", hex)
	}
	return n
}

// reckon goes by big numbers and remainders, so that the wrap-round at 2^64 is found otherwise than in the program.
func reckon(t *testing.T, obj int, w api.Word, knob int) uint64 {
	t.Helper()
	h := bigOf(t, "51ed270b7a3f1c45")
	factor := bigOf(t, "9e3779b97f4a7c15")
	first := new(big.Int).Mod(big.NewInt(int64(obj)), power(64)) // Mod answers none below 0
	for _, v := range []*big.Int{first, new(big.Int).SetUint64(w.Hi), new(big.Int).SetUint64(w.Lo)} {
		h.Xor(h, v)
		h.Mod(h.Mul(h, factor), power(64))
		h.Xor(h, new(big.Int).Div(h, power(29)))
	}
	return h.Mod(h, power(max(0, min(knob, allBits)))).Uint64()
}

// undo goes back through the step that took v in, from what came of it to what was before.
func undo(t *testing.T, h, v uint64) uint64 {
	t.Helper()
	h = h ^ h>>29 ^ h>>58
	back := new(big.Int).ModInverse(bigOf(t, "9e3779b97f4a7c15"), power(64))
	return h*back.Uint64() ^ v
}

func numbers() []int {
	return []int{0, 1, 2, 3, 63, 64, 65535, api.MaxId - 1, api.MaxId, api.MaxId + 1, math.MaxInt, -1, -2, -64, math.MinInt + 1, math.MinInt}
}

func halves() []uint64 {
	return []uint64{0, 1, 2, 5, 1 << 28, 1 << 29, 1 << 32, 1<<63 - 1, 1 << 63, math.MaxUint64, 0x51ed270b7a3f1c45, 0x9e3779b97f4a7c15}
}

func knobs() []int {
	return []int{math.MinInt, math.MinInt + 1, -65, -64, -63, -7, -1, 0, 1, 2, 3, 4, 28, 29, 30, 31, 32, 33, 62, 63, 64, 65, 99, 127, 128, 129, 1 << 32, math.MaxInt}
}

func someWord(r *rand.Rand) api.Word { return api.Word{Hi: r.Uint64(), Lo: r.Uint64()} }

func wantHash(t *testing.T, obj int, w api.Word, knob int, want uint64) {
	t.Helper()
	if h := mix.Hash(obj, w, knob); h != want {
		t.Fatalf("P5.1: Hash(%d, %x, %d): %x, want %x", obj, w, knob, h, want)
	}
}

// P5.1: the chapter's examples.
func TestExamples(t *testing.T) {
	five := api.Word{Lo: 5}
	wantHash(t, 1, five, 64, 0x7aea7402fe50e08f)
	wantHash(t, 1, five, 4, 0xf)
	wantHash(t, 1, five, 0, 0)
	wantHash(t, 1, five, -7, 0)
	wantHash(t, 1, api.Word{Hi: 5}, 64, 0xca2d741133cca4e0)
	wantHash(t, -1, api.Word{}, 64, 0x186818c6382c21d6)
	wantHash(t, 0, api.Word{}, 99, 0x3407f8fb101eff25)
}

// P5.1: objects' numbers, halves and knobs at their bounds, each with each.
func TestBounds(t *testing.T) {
	for _, obj := range numbers() {
		for _, hi := range halves() {
			for _, lo := range halves() {
				w := api.Word{Hi: hi, Lo: lo}
				wantHash(t, obj, w, allBits, reckon(t, obj, w, allBits))
			}
		}
		w := api.Word{Hi: 1 << 63, Lo: 77}
		for _, knob := range knobs() {
			wantHash(t, obj, w, knob, reckon(t, obj, w, knob))
		}
	}
}

// P5.1: any numbers.
func TestAnyNumbers(t *testing.T) {
	r := rand.New(rand.NewSource(5))
	for range 3000 {
		obj, w, knob := int(r.Uint64()), someWord(r), r.Intn(80)-8
		wantHash(t, obj, w, knob, reckon(t, obj, w, knob))
	}
}

// P5.1: nothing is kept from one call to the next.
func TestAskedAgain(t *testing.T) {
	r := rand.New(rand.NewSource(51))
	w := api.Word{Hi: 3, Lo: 4}
	first := mix.Hash(9, w, allBits)
	for range 100 {
		mix.Hash(r.Int(), someWord(r), r.Intn(70))
		wantHash(t, 9, w, allBits, first)
	}
}

// P5.1: the lowest bits of knobs beyond both bounds: nothing, and all.
func TestKnobBeyondBounds(t *testing.T) {
	r := rand.New(rand.NewSource(52))
	for range 50 {
		obj, w := int(r.Uint64()), someWord(r)
		all := reckon(t, obj, w, allBits)
		for _, knob := range knobs() {
			if knob <= 0 {
				wantHash(t, obj, w, knob, 0)
			}
			if knob >= allBits {
				wantHash(t, obj, w, knob, all)
			}
		}
	}
}

// P5.2: with fewer bits the answer is that with more, cut.
func TestFewerBitsAreACut(t *testing.T) {
	r := rand.New(rand.NewSource(53))
	for range 20 {
		obj, w := int(r.Uint64()), someWord(r)
		for more := range 71 {
			long := mix.Hash(obj, w, more)
			for fewer := range more {
				cut := new(big.Int).Mod(new(big.Int).SetUint64(long), power(fewer)).Uint64()
				if h := mix.Hash(obj, w, fewer); h != cut {
					t.Fatalf("P5.2: Hash(%d, %x, %d): %x, but %x of the one with %d bits", obj, w, fewer, h, cut, more)
				}
			}
		}
	}
}

// wantUnlike holds that none of the answers, named by what they came of, is there twice.
func wantUnlike[K comparable](t *testing.T, from []K, hash func(K) uint64) {
	t.Helper()
	seen := map[uint64]K{}
	for _, k := range from {
		h := hash(k)
		if other, there := seen[h]; there && other != k {
			t.Fatalf("P5.2: %v and %v have one answer, %x", other, k, h)
		}
		seen[h] = k
	}
}

// P5.2: words that part in one place only, be it a half or one bit, and objects' numbers with one word.
func TestUnlike(t *testing.T) {
	r := rand.New(rand.NewSource(54))
	for range 20 {
		obj, w := int(r.Uint64()), someWord(r)
		var ids []int
		var parts []uint64
		for n := range 2000 {
			ids = append(ids, n, -n, int(r.Uint64()))
			parts = append(parts, uint64(n), uint64(n)<<32, math.MaxUint64-uint64(n), r.Uint64())
		}
		wantUnlike(t, ids, func(id int) uint64 { return mix.Hash(id, w, allBits) })
		wantUnlike(t, parts, func(hi uint64) uint64 { return mix.Hash(obj, api.Word{Hi: hi, Lo: w.Lo}, allBits) })
		wantUnlike(t, parts, func(lo uint64) uint64 { return mix.Hash(obj, api.Word{Hi: w.Hi, Lo: lo}, allBits) })
		for bit := range 64 {
			h := mix.Hash(obj, w, allBits)
			for _, other := range []api.Word{{Hi: w.Hi ^ 1<<bit, Lo: w.Lo}, {Hi: w.Hi, Lo: w.Lo ^ 1<<bit}} {
				if mix.Hash(obj, other, allBits) == h {
					t.Fatalf("P5.2: %x and %x of object %d have one answer, %x", w, other, obj, h)
				}
			}
		}
	}
}

// P5.2: each step can be undone: from the answer and two of the three numbers the third is found.
func TestUndone(t *testing.T) {
	const start = 0x51ed270b7a3f1c45
	r := rand.New(rand.NewSource(55))
	for range 500 {
		obj, w := int(r.Uint64()), someWord(r)
		behindHi := undo(t, mix.Hash(obj, w, allBits), w.Lo)
		behindObj := undo(t, behindHi, w.Hi)
		if got := int(undo(t, behindObj, 0) ^ start); got != obj {
			t.Fatalf("P5.2: object %d with %x is found again as %d", obj, w, got)
		}
		if first := undo(t, behindObj, uint64(obj)); first != start {
			t.Fatalf("P5.2: undone to %x, want %x", first, uint64(start))
		}
		if hi := undo(t, behindHi, 0) ^ behindObj; hi != w.Hi {
			t.Fatalf("P5.2: the upper half %x is found again as %x", w.Hi, hi)
		}
		if lo := undo(t, mix.Hash(obj, w, allBits), 0) ^ behindHi; lo != w.Lo {
			t.Fatalf("P5.2: the lower half %x is found again as %x", w.Lo, lo)
		}
	}
}
