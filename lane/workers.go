package lane

import (
	"sync"

	"sesame/api"
	"sesame/record"
)

// reading is what a worker has made of the record at a place.
type reading struct {
	place int
	call  api.Call
	code  api.Errno
}

// readAll has records read by so many workers. All of them have ended when it answers.
func readAll(l [][]byte, workers int) ([]api.Call, []api.Errno) {
	places, readings := make(chan int), make(chan reading)
	crew := hire(l, workers, places, readings)
	calls, codes := gather(len(l), places, readings)
	close(places)
	crew.Wait()
	return calls, codes
}

// hire sets so many workers at a list of records. They can be waited for when no place more will come.
func hire(l [][]byte, workers int, places <-chan int, readings chan<- reading) *sync.WaitGroup {
	var crew sync.WaitGroup
	crew.Add(workers)
	for range workers {
		go func() {
			defer crew.Done()
			work(l, places, readings)
		}()
	}
	return &crew
}

// work reads the record at each place that comes, till no more will.
func work(l [][]byte, places <-chan int, readings chan<- reading) {
	for place := range places {
		call, code := record.Parse(l[place])
		readings <- reading{place, call, code}
	}
}

// gather hands out n places and takes in what comes of each. One select does both, as either may be ready first; what comes is laid at its own place, so that it doesn't show when it came.
func gather(n int, places chan<- int, readings <-chan reading) ([]api.Call, []api.Errno) {
	calls, codes := make([]api.Call, n), make([]api.Errno, n)
	next, came := 0, 0
	for came < n {
		if next == n {
			places = nil // none is left: a nil channel is never ready
		}
		select {
		case places <- next:
			next++
		case r := <-readings:
			calls[r.place], codes[r.place] = r.call, r.code
			came++
		}
	}
	return calls, codes
}
