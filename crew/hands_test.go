package crew_test

import (
	"fmt"
	"math/rand"
	"runtime"
	"runtime/metrics"
	"slices"
	"sync"
	"testing"
	"time"

	"churn/api"
)

// settled: how many goroutines there are, once they are no more than so many, or when waiting has brought nothing.
func settled(most int) int {
	for range 2000 {
		if runtime.NumGoroutine() <= most {
			break
		}
		time.Sleep(time.Millisecond)
	}
	return runtime.NumGoroutine()
}

// calls: one of each kind: that is OK, and that is refused at each place where it can be.
func calls() map[string]func() {
	list := map[string]func(){}
	for _, x := range append(spoilings(), spoiling{what: "nothing", spoil: func(*given) {}}) {
		for _, workers := range []int{1, 3, 64} {
			for _, capacity := range []int{0, 1, 1024} {
				g := sound().with(workers, capacity, 9)
				x.spoil(&g)
				list[fmt.Sprintf("Run, %s spoiled, %v", x.what, g)] = func() { g.run() }
			}
		}
	}
	for _, x := range []struct{ left, n, workers, capacity int }{{2, 0, 64, 0}, {2, 5, 64, 0}, {2, 100, 3, 0}, {2, 100, 64, 1024}, {2, 100, 1, 1}, {9, 20, 4, 0}, {2, 20, 0, 0}, {2, 20, 65, 0}, {2, 20, 4, -1}, {2, 20, 4, 1025}} {
		list[fmt.Sprintf("Peel %+v", x)] = func() { peel(key, x.left, cells[:x.n], x.workers, x.capacity) }
	}
	for _, x := range []struct{ tape, chunks, n int }{{2000, 64, 100}, {2000, 1, 100}, {2000, 64, 0}, {17, 64, 5}, {20, 1, 5}, {20, 64, 5}, {100, 8, 100}, {2000, 0, 5}, {2000, 65, 5}, {2000, 64, 257}} {
		list[fmt.Sprintf("Shuffle %+v", x)] = func() { shuffle(some(x.tape, 2351), x.chunks, short(x.n)) }
	}
	return list
}

// Rule 7: all goroutines have ended when a call answers, beside an error too. (The last one may still be on its way out, so there is a little patience.)
func TestGoroutinesHaveEnded(t *testing.T) {
	before := runtime.NumGoroutine()
	for what, call := range calls() {
		for range 3 {
			call()
			if after := settled(before); after > before {
				t.Fatalf("%s: %d goroutines ahead of it, %d behind it", what, before, after)
			}
		}
	}
}

// begun: how many goroutines the program has begun so far.
func begun() int {
	sample := []metrics.Sample{{Name: "/sched/goroutines-created:goroutines"}}
	metrics.Read(sample)
	if sample[0].Value.Kind() != metrics.KindUint64 {
		return -1
	}
	return int(sample[0].Value.Uint64())
}

// checkBegun: whether a call begins so many goroutines. The runtime begins some of its own now and then, so one count of several must fit.
func checkBegun(t *testing.T, what string, want int, call func()) {
	t.Helper()
	var counts []int
	for range 10 {
		before := begun()
		call()
		counts = append(counts, begun()-before)
	}
	if !slices.Contains(counts, want) {
		t.Errorf("%s: %v goroutines begun; want %d", what, counts, want)
	}
}

// P23.1 and P23.2: so many goroutines as workers says peel, and each chunk is shuffled by one; where the arguments are refused, none is begun.
func TestGoroutinesAreBegun(t *testing.T) {
	if begun() < 0 {
		t.Skip("the runtime doesn't tell how many goroutines were begun")
	}
	for _, n := range []int{0, 1, 40} {
		for _, workers := range []int{1, 2, 7, 64} {
			for _, capacity := range []int{0, 1024} {
				checkBegun(t, fmt.Sprintf("Peel of %d cells with %d workers", n, workers), workers, func() { peel(key, 2, cells[:n], workers, capacity) })
			}
		}
		for _, chunks := range []int{1, 2, 7, 64} {
			checkBegun(t, fmt.Sprintf("Shuffle of %d cells in %d chunks", n, chunks), chunks, func() { shuffle(some(1000, 2352), chunks, cells[:n]) })
		}
	}
	checkBegun(t, "Peel with 65 workers", 0, func() { peel(key, 2, cells[:5], 65, 0) })
	checkBegun(t, "Peel with the capacity 1025", 0, func() { peel(key, 2, cells[:5], 2, 1025) })
	checkBegun(t, "Shuffle with 65 chunks", 0, func() { shuffle(some(1000, 2352), 65, cells[:5]) })
	for _, x := range [][2]int{{1, 1}, {5, 3}, {64, 2}, {2, 64}} {
		// So many peel, so many look which tags stand first, and one shuffles each chunk.
		g := batch(config(x[0], x[1], 1), cells[:20])
		checkBegun(t, fmt.Sprintf("Run with %d workers and %d chunks", x[0], x[1]), 2*x[0]+x[1], func() { g.run() })
	}
	checkBegun(t, "Run with 65 workers", 0, func() { sound().with(65, 0, 1).run() })
}

// together: does something by so many hands at one time, all let go at once, and waits for them.
func together(hands int, do func(hand int)) {
	var ready, done sync.WaitGroup
	ready.Add(hands)
	done.Add(hands)
	start := make(chan struct{})
	for hand := range hands {
		go func() {
			defer done.Done()
			ready.Done()
			<-start
			do(hand)
		}()
	}
	ready.Wait()
	close(start)
	done.Wait()
}

// P23.1 and P23.2: calls made by several goroutines at one time, of the same arguments in the same memory, each answer its own.
func TestManyAtOneTime(t *testing.T) {
	list := givens()
	var raws [][]byte
	var outcomes []api.Outcome
	for _, g := range list {
		raws, outcomes = append(raws, g.raw()), append(outcomes, g.mix())
	}
	together(10, func(hand int) {
		for i := range list {
			j := (i*5 + hand) % len(list)
			if o := list[j].runOf(raws[j]); !sameOutcome(o, outcomes[j]) {
				t.Errorf("hand %d, arguments %d: %s; want %s", hand, j, told(o), told(outcomes[j]))
			}
		}
	})
}

// P23.2: many calls of Peel and of Shuffle at one time, over the same cells.
func TestManyPeelAndShuffle(t *testing.T) {
	batch := mixed(40, rand.New(rand.NewSource(2353)))
	tape := some(900, 2354)
	wanted := wordsOfPeel(key, 2, batch, 1, 0)
	together(10, func(hand int) {
		for i := range 10 {
			if got := peel(key, 2, batch, 1+(hand*7+i)%64, i%3); !got.same(wanted) {
				t.Errorf("hand %d: %v; want %v", hand, got, wanted)
			}
			checkShuffle(t, fmt.Sprint("hand ", hand), tape, 1+(hand*5+i)%64, batch)
		}
	})
}
