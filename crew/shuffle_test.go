package crew_test

import (
	"bytes"
	"fmt"
	"math/rand"
	"runtime"
	"testing"

	"churn/api"
	"churn/crew"
	"churn/riffle"
)

// letters: cells of one letter each.
func letters(s string) (list [][]byte) {
	for _, b := range []byte(s) {
		list = append(list, []byte{b})
	}
	return list
}

// counting: 18 noughts and then the bytes 1 to 24: the tape of the examples of chapter 13.
func counting() []byte {
	p := make([]byte, 18)
	for b := byte(1); b <= 24; b++ {
		p = append(p, b)
	}
	return p
}

// P23.2: the chapter's examples of Shuffle, and those of chapter 13's orders.
func TestExamplesOfShuffle(t *testing.T) {
	p := counting()
	for _, x := range []struct {
		p      []byte
		chunks int
		list   string
		want   string
		err    api.Errno
	}{
		{make([]byte, 18), 1, "", "", api.OK}, {make([]byte, 17), 1, "", "", api.ErrTape}, {nil, 64, "", "", api.ErrTape},
		{p, 1, "", "", api.OK}, {p, 5, "a", "a", api.OK}, {p, 1, "abc", "cab", api.OK}, {p, 2, "abcd", "acdb", api.OK},
		{p[:17], 1, "", "", api.ErrTape}, {p[:18], 1, "a", "a", api.OK}, {p[:18], 1, "ab", "", api.ErrTape}, {p, 0, "abc", "", api.ErrArg}, {p, 65, "abc", "", api.ErrArg},
	} {
		got := shuffle(x.p, x.chunks, letters(x.list))
		if s := string(bytes.Join(got.List, nil)); got.Err != x.err || s != x.want || len(got.List) != len(x.want) {
			t.Errorf("%d bytes, %d chunks, %q: %q, error %d; want %q, %d", len(x.p), x.chunks, x.list, s, got.Err, x.want, x.err)
		}
	}
	for _, chunks := range []int{1, 64, 0, 65} {
		if got := shuffle(some(5000, 2320), chunks, short(257)); got.Err != api.ErrArg || len(got.List) != 0 {
			t.Errorf("257 cells: %v", got)
		}
	}
}

// P23.2: no cell, fewer than chunks, as many, and many; tapes that suffice and tapes that don't: what riffle.Shuffle answers.
func TestCellsAndChunks(t *testing.T) {
	errs := map[api.Errno]int{}
	for _, chunks := range []int{1, 2, 3, 7, 31, 63, 64} {
		for _, n := range []int{0, 1, 2, 3, chunks - 1, chunks, chunks + 1, 2*chunks - 1, 2*chunks + 1, 100, 255, 256} {
			for seed, length := range []int{18, 19, 40, 200, 700, 1200, 6000, 9000} {
				errs[checkShuffle(t, "cells and chunks", some(length, int64(seed)), chunks, short(n)).Err]++
			}
		}
	}
	if errs[api.OK] < 150 || errs[api.ErrTape] < 150 {
		t.Errorf("the shuffles are too much alike: %v", errs)
	}
}

// P23.2: each limit, at it and about it, and the order of the errors: ErrArg ahead of ErrTape.
func TestLimitsOfShuffle(t *testing.T) {
	for _, chunks := range append([]int{0, 1, 2, 63, 64, 65, 66}, far...) {
		for _, n := range []int{0, 1, 255, 256, 257, 258, 1000} {
			for _, length := range []int{0, 17, 18, 9000} {
				got := checkShuffle(t, "limits", some(length, 2321), chunks, short(n))
				if bad := chunks < 1 || chunks > 64 || n > 256; bad != (got.Err == api.ErrArg) {
					t.Errorf("%d chunks, %d cells: %v", chunks, n, got)
				}
			}
		}
	}
}

// P23.2: tapes of every length.
func TestTapesOfShuffle(t *testing.T) {
	for _, chunks := range []int{1, 2, 3, 5, 64} {
		for n := range 7 {
			for length := range 90 {
				checkShuffle(t, "lengths", some(length, 2322), chunks, short(n))
			}
		}
	}
}

// P23.2: one part of the tape runs out: the first chunk's, a later one's, or the braid's; whichever it is, ErrTape and no cells.
func TestWhichPartRunsOut(t *testing.T) {
	for n := 2; n < 9; n++ {
		for chunks := 1; chunks <= n; chunks++ {
			part := 64
			for spoiled := -1; spoiled <= chunks; spoiled++ {
				p := make([]byte, 18+2*part*chunks)
				from, to := 18+part*(chunks+spoiled), 18+part*(chunks+spoiled+1)
				if spoiled == chunks {
					from, to = 18, 18+part*chunks
				}
				if spoiled >= 0 {
					copy(p[from:to], bytes.Repeat([]byte{255}, part*chunks)) // a draw below 3, 5, .. throws it away
				}
				checkShuffle(t, fmt.Sprint("part ", spoiled), p, chunks, short(n))
			}
		}
	}
	// Two chunks of three cells, and one of the chunks' parts alone is of no use.
	for j := range 2 {
		p := make([]byte, 18+60)
		copy(p[48+15*j:63+15*j], bytes.Repeat([]byte{255}, 15))
		if got := checkShuffle(t, "three each", p, 2, short(6)); got.Err != api.ErrTape || len(got.List) != 0 {
			t.Errorf("chunk %d's part is of no use: %v", j, got)
		}
	}
}

// P23.2: whatever the cells are: of any length, none at all, all one and the same; what is in them has no say in the order.
func TestAnyCells(t *testing.T) {
	r := rand.New(rand.NewSource(2323))
	for range 300 {
		n, chunks := r.Intn(60), 1+r.Intn(64)
		var list [][]byte
		for range n {
			switch r.Intn(5) {
			case 0:
				list = append(list, nil)
			case 1:
				list = append(list, []byte{})
			case 2:
				list = append(list, cells[3])
			default:
				list = append(list, some(r.Intn(700), r.Int63()))
			}
		}
		p := some(r.Intn(500), r.Int63())
		got := checkShuffle(t, "any", p, chunks, list)
		order, e := riffle.Order(p, n, chunks)
		if got.Err != e || len(got.List) != len(order) {
			t.Errorf("%d cells, %d chunks: %v; the order has error %d", n, chunks, got, e)
		}
		for i, place := range order {
			if !bytes.Equal(got.List[i], list[place]) {
				t.Errorf("place %d has %x; want %x", i, got.List[i], list[place])
			}
		}
	}
}

// P23.2: the schedule doesn't show.
func TestShuffleHangsOnNoSchedule(t *testing.T) {
	defer runtime.GOMAXPROCS(runtime.GOMAXPROCS(0))
	list, p := short(200), some(3000, 2324)
	times := 200
	if testing.Short() {
		times = 20
	}
	for _, threads := range []int{1, 2, 8} {
		runtime.GOMAXPROCS(threads)
		for range times {
			if got := checkShuffle(t, "again", p, 64, list); got.Err != api.OK {
				t.Fatal(got.Err)
			}
			checkShuffle(t, "again", p[:250], 9, list)
		}
	}
}

// P4 as far as it shows here: the tape that riffle.Turn gives has the crew shuffle in the order that was wanted.
func TestTurnedTapes(t *testing.T) {
	r := rand.New(rand.NewSource(2325))
	for range 100 {
		n, chunks := r.Intn(50), 1+r.Intn(20)
		want := r.Perm(n)
		p := must(riffle.Turn(some(3000, r.Int63()), n, chunks, want))
		got := shuffle(p, chunks, short(n))
		var wanted [][]byte
		for _, place := range want {
			wanted = append(wanted, short(n)[place])
		}
		if !got.same(shuffling{List: wanted}) {
			t.Errorf("%d cells, %d chunks: %v; want %v", n, chunks, got, wanted)
		}
	}
}

func ExampleShuffle() {
	list, e := crew.Shuffle(counting(), 2, letters("abcd"))
	fmt.Printf("%s %v\n", list, e)
	_, e = crew.Shuffle(make([]byte, 17), 2, nil)
	fmt.Println(e)
	// Output:
	// [a c d b] churn: error 0
	// churn: error 3
}
