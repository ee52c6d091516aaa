package perm_test

import (
	"fmt"
	"math/rand"
	"slices"
	"testing"

	"churn/api"
	"churn/perm"
)

// P11.3, P11.5: of up to six things the digits in rising order give the permutations in rising order, each one once, and each comes back.
func TestDigitsInOrder(t *testing.T) {
	for n := range 7 {
		digits, all := lists(digitBounds(n)), permutations(n)
		if len(digits) != len(all) {
			t.Fatalf("%d things: %d lists of digits, %d permutations", n, len(digits), len(all))
		}
		for j, d := range digits {
			if got := unrank(d); !got.same(answer{List: all[j]}) {
				t.Errorf("Unrank(%v) = %v; want %v", d, got, all[j])
			}
			if got := rank(all[j]); !got.same(answer{List: d}) {
				t.Errorf("Rank(%v) = %v; want %v", all[j], got, d)
			}
		}
	}
}

// P11.1: permutations of more things at a place among all of them in rising order, as another program counted them.
func TestKnownPlaces(t *testing.T) {
	for _, c := range []struct {
		place     int
		p, digits []int
	}{
		{0, []int{0, 1, 2, 3, 4, 5, 6}, []int{0, 0, 0, 0, 0, 0, 0}},
		{1, []int{0, 1, 2, 3, 4, 6, 5}, []int{0, 0, 0, 0, 0, 1, 0}},
		{2519, []int{3, 2, 6, 5, 4, 1, 0}, []int{3, 2, 4, 3, 2, 1, 0}},
		{2520, []int{3, 4, 0, 1, 2, 5, 6}, []int{3, 3, 0, 0, 0, 0, 0}},
		{5039, []int{6, 5, 4, 3, 2, 1, 0}, []int{6, 5, 4, 3, 2, 1, 0}},
		{40319, []int{7, 6, 5, 4, 3, 2, 1, 0}, []int{7, 6, 5, 4, 3, 2, 1, 0}},
		{12345, []int{2, 4, 0, 7, 3, 5, 6, 1}, []int{2, 3, 0, 4, 1, 1, 1, 0}},
		{362879, []int{8, 7, 6, 5, 4, 3, 2, 1, 0}, []int{8, 7, 6, 5, 4, 3, 2, 1, 0}},
		{100000, []int{2, 4, 7, 8, 1, 5, 6, 0, 3}, []int{2, 3, 5, 5, 1, 2, 2, 0, 0}},
	} {
		if got := rank(c.p); !got.same(answer{List: c.digits}) {
			t.Errorf("Rank(%v) = %v; want %v", c.p, got, c.digits)
		}
		if got := unrank(c.digits); !got.same(answer{List: c.p}) {
			t.Errorf("Unrank(%v) = %v; want %v", c.digits, got, c.p)
		}
		place := 0
		for i, d := range rank(c.p).List {
			place = place*(len(c.p)-i) + d
		}
		if place != c.place {
			t.Errorf("%v: its digits tell the place %d; want %d", c.p, place, c.place)
		}
	}
}

// P11.5: of each two permutations of up to five things, and of longer ones that begin alike, the lesser has the lesser digits.
func TestOrderByDigits(t *testing.T) {
	for n := range 6 {
		all := permutations(n)
		for _, p := range all {
			for _, q := range all {
				checkOrder(t, p, q)
			}
		}
	}
	r := rand.New(rand.NewSource(119))
	for range 2000 {
		n := 1 + r.Intn(80)
		p := anyPermutation(r, n)
		q := slices.Clone(p)
		// Two numbers behind a place change theirs: up to it both are alike.
		from := r.Intn(n)
		i, j := from+r.Intn(n-from), from+r.Intn(n-from)
		q[i], q[j] = q[j], q[i]
		checkOrder(t, p, q)
		checkOrder(t, anyPermutation(r, n), p)
	}
}

func checkOrder(t *testing.T, p, q []int) {
	t.Helper()
	a, b := rank(p), rank(q)
	if a.Err != api.OK || b.Err != api.OK || slices.Compare(a.List, b.List) != slices.Compare(p, q) {
		t.Errorf("%s with the digits %v, %s with %v: not in one order", brief(p), a, brief(q), b)
	}
	first, second := unrank(a.List), unrank(b.List)
	if slices.Compare(first.List, second.List) != slices.Compare(a.List, b.List) {
		t.Errorf("the digits %v give %v, %v give %v: not in one order", a, first, b, second)
	}
}

// P11.3: longer ones there and back, without a rule.
func TestLongDigits(t *testing.T) {
	r := rand.New(rand.NewSource(120))
	for range 300 {
		n := r.Intn(300)
		d := make([]int, n)
		for i := range d {
			d[i] = r.Intn(n - i)
		}
		checkUnrank(t, d)
		if got := rank(unrank(d).List); !got.same(answer{List: d}) {
			t.Errorf("Rank(Unrank(%s)) = %v", brief(d), got)
		}
		p := anyPermutation(r, n)
		if got := unrank(rank(p).List); !got.same(answer{List: p}) {
			t.Errorf("Unrank(Rank(%s)) = %v", brief(p), got)
		}
	}
}

// P11.1: each digit at both ends of its range and just outside it, and far outside, the others being any.
func TestEndsOfDigits(t *testing.T) {
	r := rand.New(rand.NewSource(121))
	for _, n := range []int{1, 2, 3, 4, 5, 17, 256} {
		for i := range n {
			d := make([]int, n)
			for k := range d {
				d[k] = r.Intn(n - k)
			}
			for _, good := range []int{0, n - 1 - i} {
				d[i] = good
				checkUnrank(t, d)
				if got := unrank(d); got.Err != api.OK || len(got.List) != n {
					t.Errorf("Unrank(%s): %v", brief(d), got)
				}
			}
			for _, bad := range append([]int{-1, n - i, n - i + 1}, far...) {
				d[i] = bad
				if got := unrank(d); !got.same(answer{Err: api.ErrPerm}) {
					t.Errorf("Unrank(%s), digit %d: %v; want error 110", brief(d), i, got)
				}
			}
		}
	}
}

// P11.1: noughts are the digits of things in their places, the greatest ones of those turned about; the last digit is always 0.
func TestPlainDigits(t *testing.T) {
	for n := range 100 {
		up := counted(n)
		down := slices.Clone(up)
		slices.Reverse(down)
		for _, c := range [][2][]int{{up, times(n, 0)}, {down, down}} {
			if got := rank(c[0]); !got.same(answer{List: c[1]}) {
				t.Errorf("Rank(%s) = %v; want %s", brief(c[0]), got, brief(c[1]))
			}
			if got := unrank(c[1]); !got.same(answer{List: c[0]}) {
				t.Errorf("Unrank(%s) = %v; want %s", brief(c[1]), got, brief(c[0]))
			}
		}
		if n > 0 {
			if got := unrank(append(times(n-1, 0), 1)); !got.same(answer{Err: api.ErrPerm}) {
				t.Errorf("Unrank of %d digits, the last one 1: %v; want error 110", n, got)
			}
		}
	}
}

func ExampleRank() {
	digits, e := perm.Rank([]int{2, 0, 1})
	fmt.Println(digits, int(e))
	p, e := perm.Unrank(digits)
	fmt.Println(p, int(e))
	_, e = perm.Unrank([]int{0, 1})
	fmt.Println(e == api.ErrPerm)
	// Output:
	// [2 0 0] 0
	// [2 0 1] 0
	// true
}
