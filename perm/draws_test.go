package perm_test

import (
	"fmt"
	"math"
	"math/rand"
	"slices"
	"testing"

	"churn/api"
	"churn/perm"
)

// P11.3: of up to six things each list of draws gives a permutation of its own, all permutations are given, and each comes back.
func TestDrawsOneToOne(t *testing.T) {
	count := 1
	for n := range 7 {
		count *= max(n, 1)
		given := map[string]int{}
		for _, d := range lists(drawBounds(n)) {
			p := from(n, d)
			if p.Err != api.OK || len(p.List) != n || !isPermutation(p.List) {
				t.Fatalf("From(%d, %v) = %v", n, d, p)
			}
			given[fmt.Sprint(p.List)]++
			if got := draws(p.List); !got.same(answer{List: d}) {
				t.Errorf("Draws(From(%d, %v)) = %v", n, d, got)
			}
		}
		for _, p := range permutations(n) {
			if given[fmt.Sprint(p)] != 1 {
				t.Errorf("%d lists of draws give %v; want 1", given[fmt.Sprint(p)], p)
			}
			d := draws(p)
			if got := from(n, d.List); d.Err != api.OK || !within(d.List, perm.Bounds(n)) || !got.same(answer{List: p}) {
				t.Errorf("From(%d, Draws(%v) = %v) = %v", n, p, d, got)
			}
		}
		if len(given) != count {
			t.Errorf("%d things: %d permutations; want %d", n, len(given), count)
		}
	}
}

// P11.3: longer ones there and back, without a rule.
func TestLongDraws(t *testing.T) {
	r := rand.New(rand.NewSource(117))
	for range 500 {
		n := r.Intn(400)
		d := make([]int, max(n-1, 0))
		for k := range d {
			d[k] = r.Intn(n - k)
		}
		checkFrom(t, n, d)
		if got := draws(from(n, d).List); !got.same(answer{List: d}) {
			t.Errorf("Draws(From(%d, %s)) = %v", n, brief(d), got)
		}
		p := anyPermutation(r, n)
		if got := from(n, draws(p).List); !got.same(answer{List: p}) {
			t.Errorf("From(%d, Draws(%s)) = %v", n, brief(p), got)
		}
	}
}

// P11.1: each draw at both ends of its range and just outside it, and far outside, the others being any.
func TestEndsOfDraws(t *testing.T) {
	r := rand.New(rand.NewSource(118))
	for _, n := range []int{2, 3, 4, 5, 17, 256} {
		bounds := drawBounds(n)
		for k, b := range bounds {
			d := make([]int, n-1)
			for i := range d {
				d[i] = r.Intn(bounds[i])
			}
			for _, good := range []int{0, b - 1} {
				d[k] = good
				checkFrom(t, n, d)
				if got := from(n, d); got.Err != api.OK || len(got.List) != n {
					t.Errorf("From(%d, %s): %v", n, brief(d), got)
				}
			}
			for _, bad := range append([]int{-1, b, b + 1}, far...) {
				d[k] = bad
				if got := from(n, d); !got.same(answer{Err: api.ErrPerm}) {
					t.Errorf("From(%d, %s), draw %d below %d: %v; want error 110", n, brief(d), k, b, got)
				}
			}
		}
	}
}

// P11.1: draws that change nothing, and those at 0 throughout, by which each thing steps one place to the front.
func TestPlainDraws(t *testing.T) {
	for n := range 100 {
		stay := make([]int, max(n-1, 0))
		for k := range stay {
			stay[k] = n - 1 - k
		}
		if got := from(n, stay); !got.same(answer{List: counted(n)}) {
			t.Errorf("From(%d, the greatest draws) = %v", n, got)
		}
		if got := draws(counted(n)); !got.same(answer{List: stay}) {
			t.Errorf("Draws of %d things in their places: %v", n, got)
		}
		if n == 0 {
			continue
		}
		step := append(counted(n)[1:], 0)
		if got := from(n, times(n-1, 0)); !got.same(answer{List: step}) {
			t.Errorf("From(%d, noughts) = %v; want %s", n, got, brief(step))
		}
		if got := draws(step); !got.same(answer{List: times(n-1, 0)}) {
			t.Errorf("Draws(%s) = %v; want noughts", brief(step), got)
		}
	}
}

// P11.1: too few and too many draws, each of which is in its range as far as it has one.
func TestNumberOfDraws(t *testing.T) {
	for n := range 20 {
		for m := range 23 {
			got := from(n, times(m, 0))
			if m == max(n-1, 0) {
				if got.Err != api.OK || len(got.List) != n || !isPermutation(got.List) {
					t.Errorf("From(%d, %d noughts) = %v", n, m, got)
				}
				continue
			}
			if !got.same(answer{Err: api.ErrPerm}) {
				t.Errorf("From(%d, %d noughts) = %v; want error 110", n, m, got)
			}
		}
	}
	for _, n := range []int{1 << 31, 1 << 32, 1<<32 + 1, math.MaxInt - 1, math.MaxInt} {
		for _, d := range [][]int{nil, {0}, {0, 0}, {-1}, {n}, times(300, 0)} {
			if got := from(n, d); !got.same(answer{Err: api.ErrPerm}) {
				t.Errorf("From(%d, %s) = %v; want error 110", n, brief(d), got)
			}
		}
	}
}

// Rule 2: n below 0 is ErrArg ahead of ErrPerm, whatever the draws.
func TestOrderOfErrors(t *testing.T) {
	for _, n := range []int{-1, -2, -3, -256, -1 << 31, -1 << 32, math.MinInt + 1, math.MinInt} {
		for _, d := range [][]int{nil, {}, {0}, {-1}, {n}, {math.MaxInt}, {0, 0, 0}, {0, 5, 0}, times(300, 0)} {
			if got := from(n, d); !got.same(answer{Err: api.ErrArg}) {
				t.Errorf("From(%d, %s) = %v; want error 2", n, brief(d), got)
			}
		}
	}
	for n := range 3 {
		if got := from(n, []int{-1, 9, 9}); !got.same(answer{Err: api.ErrPerm}) {
			t.Errorf("From(%d, -1 9 9) = %v; want error 110", n, got)
		}
	}
}

// P11.1: Bounds are the bounds of draws: what is below them is taken, what is not is refused.
func TestBoundsOfDraws(t *testing.T) {
	for n := range 40 {
		bounds := perm.Bounds(n)
		top := slices.Clone(bounds)
		for k := range top {
			top[k]--
		}
		if got := from(n, top); got.Err != api.OK {
			t.Errorf("From(%d, Bounds less 1): error %d", n, got.Err)
		}
		for k := range top {
			top[k]++
			if got := from(n, top); got.Err != api.ErrPerm {
				t.Errorf("From(%d, %v): error %d; want 110", n, top, got.Err)
			}
			top[k]--
		}
	}
}

func ExampleFrom() {
	p, e := perm.From(4, []int{0, 0, 0})
	fmt.Println(p, int(e))
	d, e := perm.Draws(p)
	fmt.Println(d, int(e))
	fmt.Println(perm.Bounds(4))
	// Output:
	// [1 2 3 0] 0
	// [0 0 0] 0
	// [4 3 2]
}
