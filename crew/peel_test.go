package crew_test

import (
	"fmt"
	"math/rand"
	"runtime"
	"slices"
	"testing"

	"churn/api"
	"churn/cell"
	"churn/crew"
	"churn/mac"
	"churn/onion"
)

// P23.2: the chapter's examples of Peel.
func TestExamplesOfPeel(t *testing.T) {
	for _, list := range [][][]byte{nil, {}} {
		if got := peel(key, 1, list, 64, 0); got.Err != api.OK || len(got.Peeled)+len(got.Sound) != 0 {
			t.Errorf("no cells: %v", got)
		}
	}
	for _, list := range [][][]byte{nil, cells[:3]} {
		for _, x := range [][2]int{{0, 0}, {65, 0}, {1, -1}, {1, 1025}, {64, -1}, {64, 1025}, {0, 1024}, {65, 1024}} {
			if got := peel(key, 2, list, x[0], x[1]); got.Err != api.ErrArg || len(got.Peeled)+len(got.Sound) != 0 {
				t.Errorf("%d workers, capacity %d: %v", x[0], x[1], got)
			}
		}
	}
}

// P23.2: each of the limits: at it, below and above it, and far outside; alone and with another one that is wrong too.
func TestLimitsOfPeel(t *testing.T) {
	list := [][]byte{cells[0], nil, cells[1]}
	for _, workers := range append([]int{0, 1, 2, 63, 64, 65}, far...) {
		for _, capacity := range append([]int{-1, 0, 1, 2, 64, 65, 1023, 1024, 1025}, far...) {
			for _, left := range []int{0, 2, 9} {
				checkPeel(t, "limits", key, left, list, workers, capacity)
			}
		}
	}
	for _, left := range append([]int{0, 1, 2, 3, 7, 8, 9, 10}, far...) {
		for _, k := range [][]byte{nil, {}, key, key[:31], key[:16], append(slices.Clone(key), 0), make([]byte, 64)} {
			for _, workers := range []int{0, 1, 64} {
				checkPeel(t, fmt.Sprint("a key of ", len(k)), k, left, list, workers, 1)
				checkPeel(t, fmt.Sprint("a key of ", len(k)), k, left, nil, workers, 1)
			}
		}
	}
}

// badBox: a cell whose tag is right, though what is in its box has no such form.
func badBox(left int) []byte {
	whole := onion.Size(left) - 34
	nonce := [16]byte{1, 2, 3}
	good := must(onion.Wrap(key, nonce, left, make([]byte, whole)))
	keys := must(onion.Derive(key, nonce))
	good[32] ^= 0xff // the number of the bytes inside is greater than can be
	tag := mac.Tag(keys.Mac[:], slices.Concat([]byte{byte(left)}, nonce[:], good[32:]))
	copy(good[16:32], tag[:])
	return must(cell.Pad(good))
}

// kinds: cells that peel with so many left, and one that is malformed in each way.
func kinds(left int) (list [][]byte) {
	good := sent(left, 1)
	size := onion.Size(left)
	list = [][]byte{
		good, nil, {}, {1}, good[:319], append(slices.Clone(good), 0), make([]byte, 320), make([]byte, 5000),
		turned(good, 0, 1), turned(good, 16, 1), turned(good, 31, 128), turned(good, 32, 1), turned(good, size-1, 1), turned(good, 319, 1), // with 8 left nothing is behind the onion
		badBox(left), sent(left, 2), good, sent(left%8+1, 3), sent(left, 1),
	}
	return list
}

// P23.2: cells of all kinds and lengths, with every number of hops left, by workers and capacities of each size: what onion.Peel says of each.
func TestKindsOfCells(t *testing.T) {
	for left := 1; left <= 8; left++ {
		list := kinds(left)
		if _, e := onion.Peel(key, left, list[14]); e != api.ErrBox {
			t.Fatalf("left %d: the bad box gives %d", left, e)
		}
		for _, workers := range []int{1, 2, 3, 5, 19, 20, 64} {
			for _, capacity := range []int{0, 1, 2, 7, 1024} {
				got := checkPeel(t, "kinds", key, left, list, workers, capacity)
				if n := count(got.Sound); n != 4 {
					t.Errorf("left %d: %d cells peel; want 4", left, n)
				}
			}
		}
	}
}

func count(list []bool) (n int) {
	for _, is := range list {
		if is {
			n++
		}
	}
	return n
}

// P23.2: number i of both lists is what cell i comes to, sound or not: one good cell at each place among bad ones, and one bad among good.
func TestPlaceByPlace(t *testing.T) {
	bad := make([]byte, 320)
	for place := range 12 {
		good, spoiled := slices.Repeat([][]byte{bad}, 12), slices.Clone(cells[:12])
		good[place], spoiled[place] = cells[place], bad
		for workers := 1; workers <= 13; workers++ {
			for capacity := range 3 {
				got := checkPeel(t, "one is good", key, 2, good, workers, capacity)
				if count(got.Sound) != 1 || !got.Sound[place] || len(got.Peeled[place].Cell) != 320 {
					t.Errorf("the good cell at %d: %v", place, got)
				}
				got = checkPeel(t, "one is bad", key, 2, spoiled, workers, capacity)
				if count(got.Sound) != 11 || got.Sound[place] || len(got.Peeled[place].Cell) != 0 || got.Peeled[place].Replay != [16]byte{} {
					t.Errorf("the bad cell at %d: %v", place, got)
				}
			}
		}
	}
}

// P23.2: more workers than cells, as many, and fewer: every number of cells about that of the workers, so that the hands have none, one, or two each.
func TestCellsAndWorkers(t *testing.T) {
	r := rand.New(rand.NewSource(2311))
	for _, workers := range []int{1, 2, 3, 8, 63, 64} {
		for _, n := range []int{0, 1, 2, workers - 1, workers, workers + 1, 2*workers - 1, 2 * workers, 2*workers + 1, 200} {
			for _, capacity := range []int{0, 1, workers, 1024} {
				checkPeel(t, "cells and workers", key, 2, mixed(n, r), workers, capacity)
			}
		}
	}
}

// P23.2: every number of workers, and capacities about the number of cells that each of them has.
func TestAllWorkers(t *testing.T) {
	list := mixed(70, rand.New(rand.NewSource(2312)))
	want := wordsOfPeel(key, 2, list, 1, 0)
	for workers := 1; workers <= 64; workers++ {
		for _, capacity := range []int{0, 1, 2, 70/workers - 1, 70 / workers, 70/workers + 1, 1024} {
			if got := peel(key, 2, list, workers, max(capacity, 0)); !got.same(want) {
				t.Errorf("%d workers, capacity %d: %v; want %v", workers, capacity, got, want)
			}
		}
	}
}

// P23.2: many more cells than a batch has, most of them short ones.
func TestManyCells(t *testing.T) {
	n := 30000
	if testing.Short() {
		n = 3000
	}
	var list [][]byte
	for i := range n {
		list = append(list, []byte{byte(i)})
		if i%97 == 0 || i > n-5 {
			list[i] = cells[i%256]
		}
	}
	want := wordsOfPeel(key, 2, list, 1, 0)
	for _, x := range [][2]int{{1, 0}, {1, 1024}, {64, 0}, {64, 1024}, {7, 3}} {
		if got := peel(key, 2, list, x[0], x[1]); !got.same(want) {
			t.Errorf("%d cells, %d workers, capacity %d: %v; want %v", n, x[0], x[1], got, want)
		}
	}
}

// P23.2: the schedule doesn't show: the same call again and again, with one thread at a time and with several.
func TestPeelHangsOnNoSchedule(t *testing.T) {
	defer runtime.GOMAXPROCS(runtime.GOMAXPROCS(0))
	list := mixed(40, rand.New(rand.NewSource(2313)))
	want := wordsOfPeel(key, 2, list, 1, 0)
	times := 60
	if testing.Short() {
		times = 5
	}
	for _, threads := range []int{1, 2, 8} {
		runtime.GOMAXPROCS(threads)
		for range times {
			for _, x := range [][2]int{{1, 0}, {4, 0}, {4, 1}, {16, 2}, {64, 1024}} {
				if got := peel(key, 2, list, x[0], x[1]); !got.same(want) {
					t.Fatalf("%d threads, %d workers, capacity %d: %v; want %v", threads, x[0], x[1], got, want)
				}
			}
		}
	}
}

func ExamplePeel() {
	peeled, sound, e := crew.Peel(key, 2, [][]byte{cells[7], []byte("no cell"), cells[8]}, 2, 0)
	for i := range peeled {
		fmt.Printf("%v %q\n", sound[i], peeled[i].Cell[:min(6, len(peeled[i].Cell))])
	}
	fmt.Println(e)
	// Output:
	// true "cell 7"
	// false ""
	// true "cell 8"
	// churn: error 0
}
