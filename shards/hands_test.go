package shards_test

import (
	"fmt"
	"math/rand"
	"runtime"
	"runtime/metrics"
	"slices"
	"sync"
	"testing"
	"time"

	"churn/shards"
)

// together: does something by so many hands at one time, all let go at once, and waits for them.
func together(hands int, do func(hand int)) {
	var ready, done sync.WaitGroup
	ready.Add(hands)
	done.Add(hands)
	start := make(chan struct{})
	for hand := range hands {
		go func() {
			defer done.Done()
			ready.Done()
			<-start
			do(hand)
		}()
	}
	ready.Wait()
	close(start)
	done.Wait()
}

// P17.1, P17.2: many hands offer the same tags at one time, each in an order and at indexes of its own; the lowest wins, whoever came first.
func TestManyHandsOffer(t *testing.T) {
	const hands = 16
	pool := slices.Concat(numbered(0, 40), tags("abcdefgh"), [][16]byte{split(3, 1), split(3, 2)})
	for _, count := range fewCounts {
		var all []offer
		lists := make([][]offer, hands)
		r := rand.New(rand.NewSource(int64(1730 + count)))
		for hand := range hands {
			for range 200 {
				lists[hand] = append(lists[hand], offer{pool[r.Intn(len(pool))], r.Intn(2000) - 1000})
			}
			all = append(all, lists[hand]...)
		}
		f := made(t, count)
		together(hands, func(hand int) { offerAll(f, lists[hand]) })
		checkFilter(t, fmt.Sprintf("%d shards", count), f, all, tag('z'))
	}
}

// P17.1: one tag, offered by many hands at falling, rising and equal indexes: none is lost.
func TestManyHandsAtOneTag(t *testing.T) {
	const hands, steps = 16, 500
	for _, count := range []int{1, 64} {
		falling, rising, equal := tag('f'), tag('r'), tag('e')
		f := made(t, count)
		together(hands, func(hand int) {
			for step := range steps {
				f.Offer(falling, -step*hands-hand)
				f.Offer(rising, step*hands+hand-5)
				f.Offer(equal, 7)
			}
		})
		checkFilter(t, fmt.Sprintf("%d shards", count), f, []offer{{falling, 1 - steps*hands}, {rising, -5}, {equal, 7}}, tag('z'))
	}
}

// P17.1: while many hands offer and ask at one time, no answer goes back: what a hand has offered is there, a lowest index never rises, and Len never falls.
func TestManyHandsAsk(t *testing.T) {
	const hands, steps = 12, 300
	for _, count := range []int{1, 3, 64} {
		pool := numbered(7, 25)
		f := made(t, count)
		together(hands, func(hand int) {
			r := rand.New(rand.NewSource(int64(hand)))
			least, most := map[[16]byte]int{}, 0
			for range steps {
				tag, index := pool[r.Intn(len(pool))], r.Intn(100)-50
				if hand%3 > 0 {
					f.Offer(tag, index)
					if had, is := least[tag]; !is || index < had {
						least[tag] = index
					}
				}
				got, is := f.Lowest(tag)
				if had, known := least[tag]; known && (!is || got > had) {
					t.Errorf("%d shards: Lowest = %d, %v behind %d", count, got, is, had)
				}
				if !is && got != 0 {
					t.Errorf("%d shards: Lowest = %d, false", count, got)
				}
				if is {
					least[tag] = got
				}
				n := f.Len()
				if n < most || n < len(least) || n > len(pool) {
					t.Errorf("%d shards: Len = %d behind %d, where %d tags are known", count, n, most, len(least))
				}
				most = n
			}
		})
	}
}

// P17.1: filters side by side, and nil ones, used by many hands at one time.
func TestManyHandsAtManyFilters(t *testing.T) {
	const filters = 6
	var none *shards.Filter
	all := make([]*shards.Filter, filters)
	lists := make([][]offer, filters)
	r := rand.New(rand.NewSource(1731))
	for i := range all {
		all[i], lists[i] = made(t, 1+9*i), someOffers(r, 20, 100)
	}
	together(3*filters, func(hand int) {
		for _, o := range lists[hand%filters] {
			all[hand%filters].Offer(o.tag, o.index)
			none.Offer(o.tag, o.index)
			if got := asked(none, o.tag); got != (lowest{}) || none.Len() != 0 {
				t.Errorf("a nil filter: %v, Len %d", got, none.Len())
			}
			if f, e := shards.New(hand); f.Len() != 0 || (e != 0) != (f == nil) {
				t.Errorf("New(%d): Len %d, error %d", hand, f.Len(), e)
			}
		}
	})
	for i, f := range all {
		checkFilter(t, fmt.Sprintf("filter %d", i), f, lists[i])
	}
}

// P17.3, rule 6: many calls of Firsts at one time go by the same list, and none shows in another.
func TestManyFirstsAtOneTime(t *testing.T) {
	r := rand.New(rand.NewSource(1732))
	lists := [][][16]byte{someList(r, 30, 256), numbered(0, 100), slices.Repeat(tags("a"), 90), tags("abacb"), nil}
	together(20, func(hand int) {
		list := lists[hand%len(lists)]
		want := firsts{List: definedFirsts(list)}
		for round := range 20 {
			if got := firstsOf(list, 1+(hand+round)%64, 1+(7*hand+round)%64); !got.same(want) {
				t.Errorf("list %d: %v; want %v", hand%len(lists), got, want)
			}
		}
	})
}

// settled: how many goroutines there are, once they are no more than so many, or when waiting has brought nothing.
func settled(most int) int {
	for range 2000 {
		if runtime.NumGoroutine() <= most {
			break
		}
		time.Sleep(time.Millisecond)
	}
	return runtime.NumGoroutine()
}

// Rule 7: all goroutines have ended when Firsts answers, beside an error too. (The last one may still be on its way out, so there is a little patience.)
func TestGoroutinesHaveEnded(t *testing.T) {
	before := runtime.NumGoroutine()
	for what, list := range shapes() {
		for _, c := range [][2]int{{1, 1}, {1, 64}, {64, 64}, {8, 3}, {0, 64}, {65, 64}, {64, 0}, {64, 65}} {
			firstsOf(list, c[0], c[1])
			if after := settled(before); after > before {
				t.Fatalf("%s: %d goroutines ahead of Firsts(.., %d, %d), %d behind it", what, before, c[0], c[1], after)
			}
		}
	}
}

// begun: how many goroutines the program has begun so far.
func begun() int {
	sample := []metrics.Sample{{Name: "/sched/goroutines-created:goroutines"}}
	metrics.Read(sample)
	if sample[0].Value.Kind() != metrics.KindUint64 {
		return -1
	}
	return int(sample[0].Value.Uint64())
}

// P17.3, rule 7: Firsts goes through the places by so many goroutines as it is told, and no other call begins any.
func TestGoroutinesOfFirsts(t *testing.T) {
	if begun() < 0 {
		t.Skip("the runtime doesn't tell how many goroutines were begun")
	}
	list := numbered(0, 200)
	for _, workers := range []int{1, 2, 3, 16, 63, 64} {
		checkBegun(t, fmt.Sprintf("Firsts with %d workers", workers), workers, func() { firstsOf(list, 8, workers) })
	}
	checkBegun(t, "Firsts with 65 workers", 0, func() { firstsOf(list, 8, 65) })
	checkBegun(t, "Firsts with 65 shards", 0, func() { firstsOf(list, 65, 8) })
	checkBegun(t, "a filter", 0, func() {
		f := made(t, 64)
		for i, tag := range list {
			f.Offer(tag, i)
			f.Lowest(tag)
			f.Len()
			shards.Shard(tag, 64)
		}
	})
}

// checkBegun: whether a call begins so many goroutines. The runtime begins some of its own now and then, so one count of several must fit.
func checkBegun(t *testing.T, what string, want int, call func()) {
	t.Helper()
	var counts []int
	for range 10 {
		before := begun()
		call()
		counts = append(counts, begun()-before)
	}
	if !slices.Contains(counts, want) {
		t.Errorf("%s: %v goroutines begun; want %d", what, counts, want)
	}
}
