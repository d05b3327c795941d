package lane

import (
	"testing"

	"sesame/api"
	"sesame/record"
)

// exits gives the records of exits, each by another process.
func exits(n int) [][]byte {
	l := make([][]byte, n)
	for at := range l {
		l[at] = []byte{api.OpExit, byte(at), byte(at >> 8)}
	}
	return l
}

// Records are read by as many workers at a time as were asked for: so many take a place while none has got rid of what it read.
func TestManyAtATime(t *testing.T) {
	for workers := 1; workers <= mostWorkers; workers++ {
		l := exits(workers + 1)
		places, readings := make(chan int), make(chan reading)
		crew := hire(l, workers, places, readings)
		for place := range workers {
			places <- place
		}
		select {
		case places <- workers:
			t.Errorf("there are more than %d workers", workers)
			<-readings
		default:
		}
		seen := make([]bool, workers+1)
		for range workers {
			r := <-readings
			if call, code := record.Parse(l[r.place]); seen[r.place] || r.call.By != call.By || r.code != code {
				t.Errorf("%d workers: %+v", workers, r)
			}
			seen[r.place] = true
		}
		close(places)
		crew.Wait()
	}
}

// orders gives all orders of the numbers below n.
func orders(n int) [][]int {
	if n == 0 {
		return [][]int{nil}
	}
	var out [][]int
	for _, o := range orders(n - 1) {
		for at := range n {
			next := append(append([]int{}, o[:at]...), n-1)
			out = append(out, append(next, o[at:]...))
		}
	}
	return out
}

// P27.3: in what order the readings come shows nowhere: every order of few, with each number of places handed out ahead.
func TestAnyOrder(t *testing.T) {
	for n := range 6 {
		for _, order := range orders(n) {
			for ahead := 1; ahead <= max(n, 1); ahead++ {
				places, readings := make(chan int), make(chan reading)
				go late(order, ahead, places, readings)
				calls, codes := gather(n, places, readings)
				if len(calls) != n || len(codes) != n {
					t.Fatalf("P27.1: %d of %d", len(calls), n)
				}
				for at := range n {
					if calls[at].By != at || codes[at] != api.Errno(at) {
						t.Fatalf("P27.3: %v, %d ahead: %+v, %v", order, ahead, calls, codes)
					}
				}
			}
		}
	}
}

// late takes so many places ahead of its first answer, and answers in an order: none ahead of its place.
func late(order []int, ahead int, places <-chan int, readings chan<- reading) {
	taken := 0
	for _, place := range order {
		for taken <= place || taken < min(ahead, len(order)) {
			if got := <-places; got != taken {
				panic("P27.1: places are handed out one behind the other")
			}
			taken++
		}
		readings <- reading{place, api.Call{By: place}, api.Errno(place)}
	}
}
