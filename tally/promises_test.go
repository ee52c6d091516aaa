package tally_test

import (
	"math/big"
	"math/rand"
	"slices"
	"testing"

	"churn/api"
	"churn/perm"
	"churn/riffle"
	"churn/tally"
)

// lists: bounds of many kinds: none, each alone, many alike, edges, and without a rule.
func lists() [][]int {
	r := rand.New(rand.NewSource(1404))
	out := [][]int{nil, {1}, {1, 1}, times(64, 1), times(64, 2), times(64, 129), times(64, 256), times(20, 3), {256, 255, 129, 128, 3, 2, 1}}
	for b := 2; b <= 256; b++ {
		out = append(out, []int{b})
	}
	for n := 2; n <= 64; n += 3 {
		out = append(out, anyBounds(r, n), perm.Bounds(n))
	}
	return out
}

// someLengths: about a list's own length, and the ends.
func someLengths(bounds []int) []int {
	n := len(bounds)
	return []int{0, 1, 2, max(n-1, 0), n, min(n+1, 64), min(2*n, 64), 63, 64}
}

// P14.2: Good is Each times the product of the bounds.
func TestJustAsMany(t *testing.T) {
	for _, bounds := range lists() {
		for _, length := range someLengths(bounds) {
			want := number(t, each(bounds, length))
			for _, b := range bounds {
				want.Mul(want, big.NewInt(int64(b)))
			}
			if got := number(t, good(bounds, length)); got.Cmp(want) != 0 {
				t.Errorf("Good(%v, %d) = %d; Each times the product %d", bounds, length, got, want)
			}
		}
	}
}

// exhausted: how many tapes of length bytes are not good for bounds.
func exhausted(t *testing.T, bounds []int, length int) *big.Int {
	t.Helper()
	n := number(t, all(length))
	return n.Sub(n, number(t, good(bounds, length)))
}

// reading: how many of the bounds are 2 or more.
func reading(bounds []int) int {
	n := 0
	for _, b := range bounds {
		if b > 1 {
			n++
		}
	}
	return n
}

// P14.3: no more tapes run out than Bound says of the bounds that are 2 or more.
func TestNoMoreRunOut(t *testing.T) {
	for _, bounds := range lists() {
		for _, length := range someLengths(bounds) {
			most := number(t, bound(reading(bounds), length))
			if got := exhausted(t, bounds, length); got.Sign() < 0 || got.Cmp(most) > 0 {
				t.Errorf("(%v, %d): %d run out; Bound says %d", bounds, length, got, most)
			}
		}
	}
}

// P14.3: just so many, if the bounds that are 2 or more are all 129; bounds of 1 may stand among them.
func TestJustSoManyRunOut(t *testing.T) {
	r := rand.New(rand.NewSource(1405))
	for n := range 65 {
		for length := range 65 {
			bounds := times(n, 129)
			for len(bounds) < 64 && r.Intn(4) > 0 {
				bounds = slices.Insert(bounds, r.Intn(len(bounds)+1), 1)
			}
			want := number(t, bound(n, length))
			if got := exhausted(t, bounds, length); got.Cmp(want) != 0 {
				t.Errorf("(%v, %d): %d run out; want %d", bounds, length, got, want)
			}
		}
	}
}

// P14.3: 129 is the fewest bytes that are accepted for any bound, and for that bound alone: with others fewer run out.
func TestFewestAccepted(t *testing.T) {
	for b := 2; b <= 256; b++ {
		a := number(t, good([]int{b}, 1))
		if a.Cmp(big.NewInt(129)) < 0 || (a.Cmp(big.NewInt(129)) == 0) != (b == 129) {
			t.Errorf("%d bytes are accepted for the bound %d", a, b)
		}
	}
}

// P14.4: with each byte more the part that runs out falls by a third, at least.
func TestEverFewer(t *testing.T) {
	pairs := 0
	for draws := 1; 4*draws < 64; draws++ {
		for length := 4 * draws; length < 64; length++ {
			pairs++
			now, next := number(t, bound(draws, length)), number(t, bound(draws, length+1))
			if now.Sign() <= 0 || next.Mul(next, big.NewInt(3)).Cmp(now.Mul(now, big.NewInt(512))) > 0 {
				t.Errorf("Bound(%d, ..) does not fall from %d bytes to %d", draws, length, length+1)
			}
		}
	}
	if pairs != 480 {
		t.Errorf("%d pairs were looked at; want 480", pairs)
	}
}

// P14.5: the order of the bounds does not show, neither in Good nor in Each: turned about, sorted, and without a rule.
func TestOrderOfBounds(t *testing.T) {
	r := rand.New(rand.NewSource(1406))
	for _, bounds := range lists() {
		others := [][]int{slices.Clone(bounds), slices.Sorted(slices.Values(bounds)), slices.Clone(bounds)}
		slices.Reverse(others[0])
		r.Shuffle(len(bounds), func(i, j int) { others[2][i], others[2][j] = others[2][j], others[2][i] })
		for _, length := range someLengths(bounds) {
			for _, other := range others {
				if a, b := good(bounds, length), good(other, length); !a.same(b) {
					t.Errorf("Good(%v, %d) = %v; of %v %v", bounds, length, a, other, b)
				}
				if a, b := each(bounds, length), each(other, length); !a.same(b) {
					t.Errorf("Each(%v, %d) = %v; of %v %v", bounds, length, a, other, b)
				}
			}
		}
	}
}

// P14.5: all orders of four bounds.
func TestAllOrdersOfFour(t *testing.T) {
	bounds := []int{3, 129, 200, 7}
	for length := range 20 {
		want := good(bounds, length)
		for place := range 24 {
			p, e := perm.Unrank([]int{place / 6, place / 2 % 3, place % 2, 0})
			if e != api.OK {
				t.Fatal(e)
			}
			other, _ := perm.Apply(p, bounds)
			if got := good(other, length); !got.same(want) {
				t.Errorf("Good(%v, %d) = %v; want %v", other, length, got, want)
			}
		}
	}
}

// orders: how many of the tapes give each permutation of n things in so many chunks, by the permutation's number; those that are exhausted give none.
func orders(t *testing.T, n, chunks int, tapes func(call func(p []byte))) []int {
	t.Helper()
	count := make([]int, product(perm.Bounds(n)))
	tapes(func(p []byte) {
		order, e := riffle.Order(p, n, chunks)
		if e == api.ErrTape {
			return
		}
		digits, f := perm.Rank(order)
		if e != api.OK || f != api.OK {
			t.Fatalf("Order(%x, %d, %d) = %v, error %d", p, n, chunks, order, e)
		}
		at := 0
		for i, d := range digits {
			at = at*(n-i) + d
		}
		count[at]++
	})
	return count
}

// checkOrders: each permutation of n things is given by as many tapes as each other, and that is want.
func checkOrders(t *testing.T, what string, n, chunks int, want told, tapes func(call func(p []byte))) {
	t.Helper()
	for at, count := range orders(t, n, chunks, tapes) {
		if !want.same(small(count)) {
			t.Errorf("%s: permutation number %d of %d things in %d chunks is given %d times; want %v", what, at, n, chunks, count, want)
		}
	}
}

// mixed: a noise's part without a rule.
func mixed() []byte {
	noise := make([]byte, 18)
	rand.New(rand.NewSource(1407)).Read(noise)
	return noise
}

// checkTwoBytes: P14.6 of so many chunks, with one byte that does not matter.
func checkTwoBytes(t *testing.T, noise []byte, n, chunks int, other byte) {
	t.Helper()
	want := each(perm.Bounds(n), 1)
	p := join(noise, []byte{other, other})
	at := 18
	if chunks == 1 {
		at = 19
	}
	checkOrders(t, "two bytes", n, chunks, want, func(call func(p []byte)) {
		for v := range 256 {
			p[at] = byte(v)
			call(p)
		}
	})
}

// P14.6: with every number of chunks, and noise's parts and other bytes of several kinds.
func TestTwoBytesEveryChunks(t *testing.T) {
	for _, c := range []struct {
		noise []byte
		other byte
	}{
		{make([]byte, 18), 0}, {times(18, byte(255)), 255}, {mixed(), 128}, {mixed(), 1},
	} {
		for n := range 3 {
			for chunks := 1; chunks <= 64; chunks++ {
				checkTwoBytes(t, c.noise, n, chunks, c.other)
			}
		}
	}
}

// P14.6: with every other byte.
func TestTwoBytesEveryOther(t *testing.T) {
	for n := range 3 {
		for _, chunks := range []int{1, 2, 3, 64} {
			for other := range 256 {
				checkTwoBytes(t, mixed(), n, chunks, byte(other))
			}
		}
	}
}

// From draws to permutations: three things in one chunk, and in three and more: over two bytes of the part that has a say each permutation is given as often as Each tells.
func TestThreeThings(t *testing.T) {
	want := each(perm.Bounds(3), 2)
	for chunks, from := range map[int]int{1: 20, 3: 18, 4: 18, 64: 18} {
		p := make([]byte, 22)
		checkOrders(t, "four bytes", 3, chunks, want, func(call func(p []byte)) {
			everyTape(2, func(two []byte) {
				copy(p[from:], two)
				call(p)
			})
		})
	}
}

// From draws to permutations: three things in chunks of two and one: an interleaving is given by 2! * 1! lists of the braid's draws, and the first chunk's order by every second byte of its part; the second one's part is not read.
func TestChunksOfTwoAndOne(t *testing.T) {
	want := number(t, each(perm.Bounds(3), 2))
	want.Mul(want, big.NewInt(2))
	for _, last := range []byte{0, 255} {
		p := append(make([]byte, 21), last)
		checkOrders(t, "four bytes", 3, 2, told{Bytes: want.Bytes()}, func(call func(p []byte)) {
			everyTape(2, func(two []byte) {
				copy(p[18:], two)
				// All even bytes tell one draw, and all odd ones the other.
				for _, v := range []byte{6, 251} {
					p[20] = v
					call(p)
				}
			})
		})
	}
	if n, e := tally.Each(perm.Bounds(2), 1); e != api.OK || !slices.Equal(n, []byte{128}) {
		t.Errorf("Each(2, 1) = %v, error %d", n, e)
	}
}
