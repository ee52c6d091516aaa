package crew

import (
	"sync"

	"churn/api"
	"churn/onion"
	"churn/order"
)

// Peel: each cell peeled by so many goroutines; a zero Peeled for one that doesn't peel.
func Peel(key []byte, left int, cells [][]byte, workers, capacity int) ([]api.Peeled, []bool, api.Errno) {
	if len(key) != api.KeySize || !within(left, 1, api.MaxHops) || !within(workers, 1, api.MaxWorkers) || !within(capacity, 0, api.MaxCap) {
		return nil, nil, api.ErrArg
	}
	var ended sync.WaitGroup
	ended.Add(workers)
	peelers := make([]peeler, workers)
	for i := range peelers {
		p := newPeeler(capacity)
		peelers[i] = p
		go func() {
			defer ended.Done()
			p.work(key, left)
		}()
	}
	all := peeledBy(peelers, cells)
	ended.Wait()
	return all.peeled, all.sound, api.OK
}

func within(n, low, high int) bool { return low <= n && n <= high }

// A job is a cell with its number.
type job struct {
	number int
	cell   []byte
}

// A peeling is what came of the cell of a number.
type peeling struct {
	number int
	peeled api.Peeled
	sound  bool
}

// A peeler has two channels of its own: over the one cells come in, over the other goes out what came of them.
type peeler struct {
	jobs chan job
	done chan peeling
}

func newPeeler(capacity int) peeler {
	return peeler{make(chan job, capacity), make(chan peeling, capacity)}
}

// work: what the peeler's goroutine does, till no more jobs come.
func (p peeler) work(key []byte, left int) {
	defer close(p.done)
	for j := range p.jobs {
		peeled, e := onion.Peel(key, left, j.cell)
		p.done <- peeling{j.number, peeled, e == api.OK}
	}
}

// give: hands the peeler one more job. Its answers are taken meanwhile: it may be waiting for that, and would take no job till then.
func (p peeler) give(j job, all *peelings) {
	for {
		select {
		case p.jobs <- j:
			return
		case x := <-p.done:
			all.take(x)
		}
	}
}

// peeledBy: the cells dealt out to the peelers in turns, and what came of them all. Behind it no peeler has anything left to do.
func peeledBy(peelers []peeler, cells [][]byte) *peelings {
	all := &peelings{buffer: order.New[peeling]()}
	for i, c := range cells {
		peelers[i%len(peelers)].give(job{i, c}, all)
	}
	for _, p := range peelers {
		close(p.jobs)
	}
	for _, p := range peelers {
		for x := range p.done {
			all.take(x)
		}
	}
	return all
}

// Peelings are what came of the cells, in the cells' order; what has come ahead of its turn waits in the buffer.
type peelings struct {
	buffer *order.Buffer[peeling]
	peeled []api.Peeled
	sound  []bool
}

func (all *peelings) take(x peeling) {
	// The numbers are those of a list, each dealt out once, so the buffer refuses none.
	all.buffer.Put(x.number, x)
	for next, there := all.buffer.Next(); there; next, there = all.buffer.Next() {
		all.peeled = append(all.peeled, next.peeled)
		all.sound = append(all.sound, next.sound)
	}
}
