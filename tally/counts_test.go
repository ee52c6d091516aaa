package tally_test

import (
	"math/big"
	"math/rand"
	"slices"
	"testing"

	"churn/api"
	"churn/draw"
)

// checkAll: 256 to the power length is a 1 with so many noughts behind it.
func checkAll(t *testing.T, length int) {
	t.Helper()
	if got, want := all(length), (told{Bytes: join([]byte{1}, make([]byte, length))}); !got.same(want) {
		t.Errorf("All(%d) = %v; want %v", length, got, want)
	}
}

// P14.1: All of every length.
func TestAll(t *testing.T) {
	for length := range 65 {
		checkAll(t, length)
	}
}

// P14.1: every bound alone, with every length.
func TestEveryBound(t *testing.T) {
	for b := 1; b <= 256; b++ {
		for length := range 65 {
			checkCounts(t, []int{b}, length)
		}
	}
}

// P14.1: of one byte a bound has as many good tapes as bytes that it accepts, and each draw is told by as many as each other.
func TestOneByte(t *testing.T) {
	for b := 2; b <= 256; b++ {
		if got := good([]int{b}, 1); !got.same(small(256 - 256%b)) {
			t.Errorf("Good(%d, 1) = %v; want %d", b, got, 256-256%b)
		}
		if got := each([]int{b}, 1); !got.same(small(256 / b)) {
			t.Errorf("Each(%d, 1) = %v; want %d", b, got, 256/b)
		}
	}
}

// tops: of each bound the first byte that is not accepted.
func tops(bounds []int) []int {
	var out []int
	for _, b := range bounds {
		out = append(out, top(b))
	}
	return out
}

// product: how many lists of draws there are below these bounds.
func product(bounds []int) int {
	n := 1
	for _, b := range bounds {
		n *= b
	}
	return n
}

// place: the number of a list of draws among all of these bounds.
func place(draws, bounds []int) int {
	n := 0
	for i, d := range draws {
		n = n*bounds[i] + d
	}
	return n
}

// checkOneByOne: Good and Each against a count of all tapes, and, for Each, of those that give each list of draws.
func checkOneByOne(t *testing.T, bounds []int, length int, tell func(p []byte, draws []int) bool) {
	t.Helper()
	sum, giving, draws := 0, make([]int, product(bounds)), make([]int, len(bounds))
	everyTape(length, func(p []byte) {
		if tell(p, draws) {
			sum++
			giving[place(draws, bounds)]++
		}
	})
	if got := good(bounds, length); !got.same(small(sum)) {
		t.Errorf("Good(%v, %d) = %v; counted %d", bounds, length, got, sum)
	}
	slices.Sort(giving)
	least, most := giving[0], giving[len(giving)-1]
	if got := each(bounds, length); !got.same(small(least)) || least != most {
		t.Errorf("Each(%v, %d) = %v; counted %d to %d", bounds, length, got, least, most)
	}
}

// byWords: the draws by the words of layer 10, written out once more.
func byWords(bounds []int) func(p []byte, draws []int) bool {
	t := tops(bounds)
	return func(p []byte, draws []int) bool { return drawsOf(p, bounds, t, draws) }
}

// byDraw: the draws that package draw tells.
func byDraw(bounds []int) func(p []byte, draws []int) bool {
	return func(p []byte, draws []int) bool {
		list, _, e := draw.All(p, bounds)
		copy(draws, list)
		return e == api.OK
	}
}

// P14.1: every bound alone, counted over all tapes of up to two bytes.
func TestEveryBoundOneByOne(t *testing.T) {
	for b := 1; b <= 256; b++ {
		for length := range 3 {
			checkOneByOne(t, []int{b}, length, byWords([]int{b}))
		}
	}
}

// P14.1: no bounds, pairs of edges, and lists with bounds of 1 among them, counted over all tapes of up to two bytes.
func TestListsOneByOne(t *testing.T) {
	lists := [][]int{nil, {1, 1}, {1, 1, 1}, {1, 3, 1}, {1, 129, 200}, {129, 1, 200}, {129, 200, 1}, {1, 5, 1, 1, 7, 1}, {2, 3, 4}, {2, 2, 2}, {3, 1, 3, 1, 3}}
	for _, a := range edges {
		for _, b := range edges {
			lists = append(lists, []int{a, b})
		}
	}
	for _, bounds := range lists {
		for length := range 3 {
			checkOneByOne(t, bounds, length, byWords(bounds))
		}
	}
}

// P14.1: lists counted over all tapes of three bytes.
func TestThreeBytesOneByOne(t *testing.T) {
	if testing.Short() {
		t.Skip("counts many millions of tapes")
	}
	for _, bounds := range [][]int{{129}, {200, 3}, {129, 129}, {255, 100, 7}, {1, 2, 1, 171}, {3, 3, 3, 3}} {
		checkOneByOne(t, bounds, 3, byWords(bounds))
	}
}

// P14.1: the same with the draws that package draw tells.
func TestOneByOneByDraw(t *testing.T) {
	ends := []int{1, 2, 3, 128, 129, 255, 256}
	for _, a := range ends {
		for _, b := range ends {
			for length := range 3 {
				bounds := []int{a, b}
				checkOneByOne(t, bounds, length, byDraw(bounds))
			}
		}
	}
}

// P14.1: pairs and triples of edges, with lengths from none to the most.
func TestEdges(t *testing.T) {
	for _, a := range edges {
		for _, b := range edges {
			for _, length := range []int{0, 1, 2, 3, 4, 31, 63, 64} {
				checkCounts(t, []int{a, b}, length)
				for _, c := range edges {
					if length < 5 {
						checkCounts(t, []int{a, b, c}, length)
					}
				}
			}
		}
	}
}

// P14.1: lists of all lengths, without a rule, with tapes that are shorter, just as long and longer.
func TestManyBounds(t *testing.T) {
	r := rand.New(rand.NewSource(1401))
	for n := range 65 {
		for range 3 {
			bounds := anyBounds(r, n)
			for _, length := range []int{max(n-1, 0), n, min(n+1, 64), r.Intn(65), 64} {
				checkCounts(t, bounds, length)
			}
		}
	}
}

// tail: how many tapes of length bytes have at least n among them that are of so many kinds, by choosing their places.
func tail(n, length, kinds int) *big.Int {
	sum := new(big.Int)
	for i := n; i <= length; i++ {
		term := new(big.Int).Binomial(int64(length), int64(i))
		for at := range length {
			if at < i {
				term.Mul(term, big.NewInt(int64(kinds)))
			} else {
				term.Mul(term, big.NewInt(int64(256-kinds)))
			}
		}
		sum.Add(sum, term)
	}
	return sum
}

// P14.1: n times one bound: the good tapes are those with at least n bytes that it accepts, wherever they stand.
func TestOneBoundManyTimes(t *testing.T) {
	for _, b := range []int{2, 3, 7, 100, 128, 129, 130, 171, 200, 255, 256} {
		for _, n := range []int{0, 1, 2, 5, 16, 31, 32, 33, 63, 64} {
			for _, length := range []int{0, 1, 2, 16, 32, 40, 63, 64} {
				want := tail(n, length, top(b))
				if got := number(t, good(times(n, b), length)); got.Cmp(want) != 0 {
					t.Errorf("Good(%d times %d, %d) = %d; want %d", n, b, length, got, want)
				}
			}
		}
	}
}

// P14.1: with fewer bytes than bounds that read one no tape is good; with as many each byte must be accepted.
func TestFewBytes(t *testing.T) {
	r := rand.New(rand.NewSource(1402))
	for n := 1; n <= 64; n++ {
		bounds := make([]int, n)
		accepted, alike := big.NewInt(1), big.NewInt(1)
		for i := range bounds {
			bounds[i] = 2 + r.Intn(255)
			accepted.Mul(accepted, big.NewInt(int64(top(bounds[i]))))
			alike.Mul(alike, big.NewInt(int64(256/bounds[i])))
		}
		for length := range n {
			if a, b := good(bounds, length), each(bounds, length); !a.same(told{}) || !b.same(told{}) {
				t.Errorf("(%v, %d): Good %v and Each %v; want 0", bounds, length, a, b)
			}
		}
		if a, b := number(t, good(bounds, n)), number(t, each(bounds, n)); a.Cmp(accepted) != 0 || b.Cmp(alike) != 0 {
			t.Errorf("(%v, %d): Good %d and Each %d; want %d and %d", bounds, n, a, b, accepted, alike)
		}
	}
}

// P14.1: bounds of 1, alone or among others, wherever they stand, do not show.
func TestBoundsOfOne(t *testing.T) {
	r := rand.New(rand.NewSource(1403))
	for range 300 {
		bounds, length := anyBounds(r, r.Intn(30)), r.Intn(65)
		more := slices.Clone(bounds)
		for len(more) < 64 && r.Intn(20) > 0 {
			more = slices.Insert(more, r.Intn(len(more)+1), 1)
		}
		if a, b := good(bounds, length), good(more, length); !a.same(b) {
			t.Errorf("Good(%v, %d) = %v; with bounds of 1, %v, %v", bounds, length, a, more, b)
		}
		if a, b := each(bounds, length), each(more, length); !a.same(b) {
			t.Errorf("Each(%v, %d) = %v; with bounds of 1, %v, %v", bounds, length, a, more, b)
		}
	}
	for n := range 65 {
		for _, length := range []int{0, 1, 2, 64} {
			if a, b := good(times(n, 1), length), each(times(n, 1), length); !a.same(all(length)) || !b.same(all(length)) {
				t.Errorf("%d bounds of 1, %d bytes: Good %v and Each %v; want %v", n, length, a, b, all(length))
			}
		}
	}
}

// lowCounts: how many tapes of length bytes have 0, 1, .. among them that are below 129, reckoned byte by byte.
func lowCounts(length int) []whole {
	low := []whole{one()}
	for range length {
		longer := make([]whole, len(low)+1)
		for i, tapes := range low {
			longer[i] = longer[i].plus(tapes.by(127))
			longer[i+1] = longer[i+1].plus(tapes.by(129))
		}
		low = longer
	}
	return low
}

func checkBound(t *testing.T, draws, length int) {
	t.Helper()
	checkBoundOf(t, draws, length, lowCounts(length))
}

func checkBoundOf(t *testing.T, draws, length int, low []whole) {
	t.Helper()
	var sum whole
	for i := range min(draws, len(low)) {
		sum = sum.plus(low[i])
	}
	if got := bound(draws, length); !got.same(sum.told()) {
		t.Errorf("Bound(%d, %d) = %v; want %v", draws, length, got, sum.told())
	}
}

// P14.1: Bound of all draws and lengths.
func TestBound(t *testing.T) {
	for length := range 65 {
		low := lowCounts(length)
		for draws := range 65 {
			checkBoundOf(t, draws, length, low)
		}
	}
}

// P14.1: Bound is 0 of no draws; of more draws than bytes it is all tapes.
func TestEndsOfBound(t *testing.T) {
	for length := range 65 {
		if got := bound(0, length); !got.same(told{}) {
			t.Errorf("Bound(0, %d) = %v; want 0", length, got)
		}
		for draws := length + 1; draws <= 64; draws++ {
			if got := bound(draws, length); !got.same(all(length)) {
				t.Errorf("Bound(%d, %d) = %v; want %v", draws, length, got, all(length))
			}
		}
	}
}

// P14.1: Bound against a count of all tapes of up to two bytes with fewer bytes than draws below 129.
func TestBoundOneByOne(t *testing.T) {
	for length := range 3 {
		for draws := range 5 {
			sum := 0
			everyTape(length, func(p []byte) {
				low := 0
				for _, v := range p {
					if v < 129 {
						low++
					}
				}
				if low < draws {
					sum++
				}
			})
			if got := bound(draws, length); !got.same(small(sum)) {
				t.Errorf("Bound(%d, %d) = %v; counted %d", draws, length, got, sum)
			}
		}
	}
}

// P14.1: numbers are told the greatest byte first, without a nought in front, and 0 as no bytes: at each number of bytes that there is, and about the places where one more comes.
func TestHowNumbersAreTold(t *testing.T) {
	seen := make([]bool, 66)
	look := func(a told) {
		number(t, a)
		seen[len(a.Bytes)] = true
	}
	for length := range 65 {
		look(all(length))
		for n := 0; n <= 64; n += 4 {
			look(bound(n, length))
			look(good(times(n, 2), length))
			look(good(times(n, 129), length))
			look(each(times(n, 2), length))
			look(each(times(n, 256), length))
		}
	}
	if at := slices.Index(seen, false); at >= 0 {
		t.Errorf("no number of %d bytes was told", at)
	}
	for _, c := range []struct {
		got, want told
	}{
		{each([]int{256}, 1), told{Bytes: []byte{1}}},
		{good([]int{255}, 1), told{Bytes: []byte{255}}},
		{good([]int{256}, 1), told{Bytes: []byte{1, 0}}},
		{each([]int{256}, 2), told{Bytes: []byte{1, 0}}},
		{good([]int{3}, 2), told{Bytes: []byte{255, 255}}},
		{good([]int{171}, 2), told{Bytes: []byte{227, 199}}},
		{bound(1, 3), told{Bytes: []byte{31, 65, 127}}},
		{each(times(64, 2), 64), told{Bytes: join([]byte{1}, make([]byte, 56))}},
		{each(times(64, 256), 64), told{Bytes: []byte{1}}},
		{good(times(64, 256), 63), told{}},
	} {
		if !c.got.same(c.want) {
			t.Errorf("%v; want %v", c.got, c.want)
		}
	}
}
