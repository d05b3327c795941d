package book_test

import (
	"math"
	"math/rand"
	"runtime"
	"testing"

	"sesame/api"
	"sesame/book"
)

// edges: numbers that no kernel's calls have, and some that they have.
var edges = []int{math.MinInt, math.MinInt + 1, math.MinInt32, -25, -24, -1, 0, 0, 0, 1, 1, 2, 3, 23, 24, 31, 4096, 4097, 65535, 65536, math.MaxInt32, 1 << 60, 1 << 62, 1<<62 + 1, math.MaxInt - 24, math.MaxInt - 1, math.MaxInt}

func strangeCap(rng *rand.Rand) api.Cap {
	return api.Cap{Obj: any1(rng, edges), Pass: api.Word{Hi: uint64(rng.Intn(2)), Lo: uint64(any1(rng, edges))}}
}

func strangeData(rng *rand.Rand, caps []api.Cap) []byte {
	out := make([]byte, rng.Intn(30))
	for range rng.Intn(4) {
		out = append(out, laid(any1(rng, caps))...)
	}
	return out
}

// Rule 1: of a run that is no kernel's each call ends, none panics, and Steps counts them all the same.
func TestStrange(t *testing.T) {
	for seed := range int64(300) {
		rng := rand.New(rand.NewSource(seed))
		b := book.New()
		caps := []api.Cap{{}, of(1, 1), of(1, 2), strangeCap(rng), strangeCap(rng), strangeCap(rng)}
		for at := range 300 {
			c := api.Call{
				Op: rng.Intn(13) - 1, By: any1(rng, edges), Size: any1(rng, edges), Cap: any1(rng, caps), Given: rng.Intn(2) == 0, Rights: any1(rng, edges),
				Off: any1(rng, edges), N: any1(rng, edges), Data: strangeData(rng, caps), Index: any1(rng, edges),
			}
			for range rng.Intn(4) {
				c.Gifts = append(c.Gifts, any1(rng, edges))
			}
			r := api.Reply{Cap: any1(rng, caps), Data: strangeData(rng, caps), Number: any1(rng, edges)}
			if rng.Intn(4) == 0 {
				r.Code = api.Errno(any1(rng, edges))
			}
			b.Shown(c)
			b.Honest(c)
			b.Note(c, r)
			if b.Steps() != at+1 {
				t.Fatalf("P24.1: Steps %d, want %d", b.Steps(), at+1)
			}
			for _, x := range caps {
				b.Rights(x)
				_, way := b.Way(c.By, x)
				if told := b.Told(c.By, x); told != way {
					t.Fatalf("P24.3: seed %d: Told %v, Way %v", seed, told, way)
				}
			}
			b.Known(c.By)
		}
	}
}

// used gives how many bytes a run of notes makes.
func used(note func(b *book.Book)) uint64 {
	var before, after runtime.MemStats
	b := book.New()
	runtime.ReadMemStats(&before)
	note(b)
	runtime.ReadMemStats(&after)
	return after.TotalAlloc - before.TotalAlloc
}

// No room is made by a number that stands in a call or a reply.
func TestNoRoom(t *testing.T) {
	for _, big := range []int{api.MaxBytes, math.MaxInt32, 1 << 60, math.MaxInt, math.MinInt} {
		n := used(func(b *book.Book) {
			b.Note(api.Call{Op: api.OpCreate, Size: big}, api.Reply{Cap: of(1, 1)})
			b.Note(write(of(1, 1), big, laid(of(1, 1))), api.Reply{})
			b.Note(by(1, read(of(1, 1), big, big)), api.Reply{Data: laid(of(1, 1))})
			b.Note(by(1, read(of(1, 1), big, big)), api.Reply{})
			b.Note(spawn(big, 0, -1), api.Reply{Number: big})
			b.Note(by(big, add(of(big, 1))), api.Reply{})
			b.Note(by(big, remove(big)), api.Reply{})
			b.Note(by(big, exit()), api.Reply{})
			if b.Steps() != 8 {
				t.Errorf("P24.1: Steps %d", b.Steps())
			}
		})
		if n > 1<<16 {
			t.Errorf("%d: %d bytes for eight calls", big, n)
		}
	}
}

// Chains that close, and long ones, end too.
func TestStrangeKin(t *testing.T) {
	b := book.New()
	for at := range uint64(3) {
		b.Note(derive(of(1, at), 31), api.Reply{Cap: of(1, (at+1)%3)})
	}
	b.Note(revoke(of(1, 1)), api.Reply{})
	b.Note(create(1), api.Reply{Cap: of(2, 0)})
	const long = 20000
	for at := range uint64(long) {
		b.Note(derive(of(2, at), 31), api.Reply{Cap: of(2, at+1)})
	}
	if way, told := b.Way(0, of(2, long)); len(way) != long+1 || !told {
		t.Errorf("P24.4: a Way of %d Links", len(way))
	}
	b.Note(revoke(of(2, 1)), api.Reply{})
	if _, live := b.Rights(of(2, long)); live {
		t.Error("P24.1: a long line's last is live behind a revoke")
	}
	if rights, live := b.Rights(of(2, 0)); rights != api.All || !live {
		t.Error("P24.1: a long line's root is gone")
	}
	if b.Steps() != long+6 {
		t.Errorf("P24.1: Steps %d", b.Steps())
	}
}
