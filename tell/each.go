package tell

import (
	"slices"
	"sync"

	"milepost/api"
	"milepost/table"
)

// round is one telling of all neighbours, each with a goroutine of its own.
type round struct {
	told    [][]api.Out // each goroutine has its own place, so that their haste is not to be seen in the order
	written sync.WaitGroup
	done    chan struct{} // closed, once all is written
	ended   sync.WaitGroup
}

// Each is the packets that tell each of so many neighbours of all routes of a table, in the neighbours' order.
func Each(neighbours int, t table.Table) []api.Out {
	r := &round{told: make([][]api.Out, neighbours), done: make(chan struct{})}
	r.written.Add(neighbours)
	r.ended.Add(neighbours)
	for n := range neighbours {
		// There is room for the work, so that no goroutine is waited for before all of them have theirs.
		work := make(chan table.Table, 1)
		go r.write(n, work)
		work <- t
	}
	// Behind this no work is left, so that no select has to choose between work and the end.
	r.written.Wait()
	close(r.done)
	r.ended.Wait()
	return slices.Concat(r.told...)
}

// write is what a neighbour's goroutine does, till all is done.
func (r *round) write(neighbour int, work <-chan table.Table) {
	defer r.ended.Done()
	for {
		select {
		case t := <-work:
			r.told[neighbour] = To(neighbour, t)
			r.written.Done()
		case <-r.done:
			return
		}
	}
}
