package guess_test

import (
	"math"
	"slices"
	"sync"
	"testing"

	"sesame/api"
	"sesame/guess"
)

// spare gives a list with spare room, which is filled.
func spare[T any](list []T, by T) []T {
	out := append(slices.Clone(list), slices.Repeat([]T{by}, 9)...)
	return out[:len(list)]
}

// sameCall holds calls against each other, the spare room of their lists too.
func sameCall(x, y api.Call) bool {
	data := slices.Equal(x.Data[:cap(x.Data)], y.Data[:cap(y.Data)])
	gifts := slices.Equal(x.Gifts[:cap(x.Gifts)], y.Gifts[:cap(y.Gifts)])
	x.Data, y.Data, x.Gifts, y.Gifts = nil, nil, nil, nil
	return data && gifts && x.Op == y.Op && x.By == y.By && x.Size == y.Size && x.Cap == y.Cap && x.Given == y.Given && x.Rights == y.Rights && x.Off == y.Off && x.N == y.N && x.Index == y.Index
}

// roomyCalls gives calls of all kinds, each list of them with spare room.
func roomyCalls() []api.Call {
	calls := []api.Call{create(64), add(of(1, 1)), add(of(1, 1)), spawn(0, 1), remove(0), by(1, write(of(1, 1), 0, laid(of(1, 3)))), by(1, readNamed(1, 0, 40)), derive(of(1, 1), 31), by(1, revoke(of(1, 3))), by(1, destroy(of(1, 2))), by(1, exit()), readNamed(1, 0, 1)}
	for at := range calls {
		calls[at].Data = spare(calls[at].Data, 0xee)
		calls[at].Gifts = spare(calls[at].Gifts, 77)
	}
	return spare(calls, api.Call{Op: 99})
}

// P26.6: what is handed in stays as it is, its spare room too; what was asked ahead doesn't show.
func TestHandedIn(t *testing.T) {
	calls, kept := roomyCalls(), roomyCalls()
	for _, list := range lists(3, 2) {
		draws := spare(list, api.Word{Hi: 7})
		keptDraws := slices.Clone(draws[:cap(draws)])
		first := holdsIn(t, small(), draws, calls)
		guess.Count(small(), calls, 2)
		guess.Passwords(calls)
		if again, _ := guess.In(small(), draws, calls); again != first {
			t.Errorf("P26.2: In of %v: %v, then %v", draws, first, again)
		}
		if !slices.Equal(draws[:cap(draws)], keptDraws) || !slices.EqualFunc(calls[:len(calls)+9], kept[:len(kept)+9], sameCall) {
			t.Fatalf("P26.6: %v, %+v", draws, calls)
		}
	}
}

// P26.6: calls that share their lists, and one list of calls asked by many at once: nothing of it is written.
func TestShared(t *testing.T) {
	calls := roomyCalls()
	want := counted(t, small(), calls, 3)
	var all sync.WaitGroup
	for range 8 {
		all.Go(func() {
			if _, in, code := guess.Count(small(), calls, 3); in != want || code != api.OK {
				t.Errorf("P26.3: %d, %d, want %d", in, code, want)
			}
		})
	}
	all.Wait()
	row := laid(of(1, 3), of(1, 3))
	overlapped := []api.Call{create(64), add(of(1, 1)), spawn(0), write(of(1, 1), 0, row[:24]), write(of(1, 1), 30, row[8:40]), by(1, readNamed(1, 0, 64)), derive(of(1, 1), 1), by(1, read(of(1, 3), 0, 0))}
	in(t, "lists that share memory", small(), words(1, 3), overlapped, false)
	overlapped[4].Off = 16
	in(t, "lists that share memory, none whole any more", small(), words(1, 3), overlapped, true)
}

// Rule 1: every call ends and none panics, whatever stands in calls.
func TestStrange(t *testing.T) {
	numbers := []int{math.MinInt, -1 << 31, -1, 0, 1, 2, 65535, 65536, 1<<31 - 1, 1 << 31, 1 << 62, math.MaxInt}
	begin := []api.Call{create(64), add(of(1, 5)), spawn(0)}
	for _, a := range numbers {
		for _, b := range numbers {
			for op := -1; op <= 11; op++ {
				for _, given := range []bool{false, true} {
					c := api.Call{Op: op, By: 1, Given: given}
					switch op {
					case 1:
						c.Size = a
					case 2, 3, 4, 7:
						c.Cap, c.Rights = of(a, 5), b
					case 5:
						c.Cap, c.Off, c.N = of(1, 5), a, b
					case 6:
						c.Cap, c.Off, c.Data = of(1, 5), a, make([]byte, b&2047)
					case 8:
						c.Index = a
					case 9:
						c.Gifts = []int{a, b}
					default:
						c.By = a
					}
					if !given {
						c.Cap.Pass = api.Word{}
					}
					holdsIn(t, roomy(), words(5, 0, 1), append(slices.Clone(begin), c, c))
				}
			}
		}
	}
}
