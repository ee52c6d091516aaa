package noise_test

import (
	"math"
	"math/big"
	"math/rand"
	"slices"
	"testing"

	"churn/api"
)

// A ratio is arguments that fit.
type ratio struct{ num, den, most int }

// knownTables: tables that another program told, with fractions.
var knownTables = []struct {
	num, den, most int
	want           []int
}{
	{0, 1, 0, []int{65536}},
	{0, 1000, 16, []int{65536, 65536, 65536, 65536, 65536, 65536, 65536, 65536, 65536, 65536, 65536, 65536, 65536, 65536, 65536, 65536, 65536}},
	{1, 1, 0, []int{65536}},
	{1, 1, 16, []int{3855, 7710, 11565, 15420, 19275, 23130, 26985, 30840, 34695, 38550, 42405, 46260, 50115, 53970, 57825, 61680, 65536}},
	{1000, 1000, 16, []int{3855, 7710, 11565, 15420, 19275, 23130, 26985, 30840, 34695, 38550, 42405, 46260, 50115, 53970, 57825, 61680, 65536}},
	{1, 2, 16, []int{32768, 49152, 57344, 61440, 63488, 64512, 65024, 65280, 65408, 65472, 65504, 65520, 65528, 65532, 65534, 65535, 65536}},
	{1, 3, 16, []int{43690, 58254, 63108, 64726, 65266, 65446, 65506, 65526, 65532, 65534, 65535, 65535, 65535, 65535, 65535, 65535, 65536}},
	{2, 3, 16, []int{21867, 36445, 46164, 52644, 56963, 59843, 61763, 63042, 63896, 64464, 64844, 65096, 65265, 65377, 65452, 65502, 65536}},
	{1, 1000, 16, []int{65470, 65535, 65535, 65536, 65536, 65536, 65536, 65536, 65536, 65536, 65536, 65536, 65536, 65536, 65536, 65536, 65536}},
	{1, 1000, 4, []int{65470, 65535, 65535, 65536, 65536}},
	{999, 1000, 16, []int{3885, 7768, 11646, 15520, 19391, 23257, 27120, 30979, 34834, 38685, 42532, 46376, 50215, 54051, 57883, 61711, 65536}},
	{997, 998, 7, []int{8220, 16433, 24637, 32833, 41021, 49201, 57372, 65536}},
	{500, 1000, 5, []int{33288, 49932, 58254, 62415, 64495, 65536}},
	{9, 10, 16, []int{7865, 14944, 21314, 27048, 32209, 36853, 41033, 44795, 48181, 51228, 53970, 56439, 58660, 60659, 62459, 64078, 65536}},
	{3, 4, 1, []int{37449, 65536}},
	{123, 457, 9, []int{47897, 60788, 64258, 65192, 65443, 65511, 65529, 65534, 65535, 65536}},
	{7, 8, 15, []int{9288, 17416, 24527, 30750, 36195, 40959, 45128, 48776, 51967, 54760, 57204, 59342, 61213, 62850, 64282, 65536}},
	{1, 256, 3, []int{65280, 65535, 65535, 65536}},
	{255, 256, 12, []int{5160, 10300, 15420, 20521, 25601, 30661, 35702, 40723, 45725, 50706, 55669, 60612, 65536}},
	{61, 89, 11, []int{20842, 35127, 44917, 51628, 56227, 59380, 61540, 63021, 64036, 64732, 65209, 65536}},
	{1, 7, 2, []int{56337, 64386, 65536}},
	// Here it shows whether each weight is rounded down, from the one ahead that was rounded down itself.
	{2, 11, 16, []int{53620, 63369, 65142, 65464, 65522, 65533, 65535, 65535, 65535, 65535, 65535, 65535, 65536, 65536, 65536, 65536, 65536}},
	{2, 15, 16, []int{56797, 64370, 65380, 65515, 65533, 65535, 65535, 65535, 65535, 65535, 65536, 65536, 65536, 65536, 65536, 65536, 65536}},
	{1, 5, 16, []int{52428, 62914, 65011, 65431, 65515, 65531, 65535, 65535, 65535, 65535, 65535, 65535, 65535, 65536, 65536, 65536, 65536}},
	{1, 8, 16, []int{57344, 64512, 65408, 65520, 65534, 65535, 65535, 65535, 65535, 65535, 65536, 65536, 65536, 65536, 65536, 65536, 65536}},
	{16, 255, 3, []int{61424, 65279, 65520, 65536}},
	{1, 255, 2, []int{65279, 65534, 65536}},
	{4, 95, 7, []int{62776, 65419, 65531, 65535, 65535, 65535, 65536, 65536}},
}

// P15.1: what another program told; the words written out once more tell the same.
func TestKnownTables(t *testing.T) {
	for _, k := range knownTables {
		want := tabled{List: k.want}
		if got := checkTable(t, k.num, k.den, k.most); !got.same(want) {
			t.Errorf("Table(%d, %d, %d) = %v; want %v", k.num, k.den, k.most, got, want)
		}
	}
}

// P15.1: every ratio, with the most numbers that there can be.
func TestEveryRatio(t *testing.T) {
	step := 1
	if testing.Short() {
		step = 13
	}
	for den := 1; den <= 1000; den += step {
		for num := 0; num <= den; num++ {
			checkTable(t, num, den, 16)
		}
	}
}

// P15.1: every most, with every ratio of a small den and those about the ends of a great one.
func TestEveryMost(t *testing.T) {
	for most := range 17 {
		for den := 1; den <= 40; den++ {
			for num := range den + 1 {
				checkTable(t, num, den, most)
			}
		}
		for _, den := range []int{127, 128, 255, 256, 257, 512, 997, 998, 999, 1000} {
			for _, num := range []int{0, 1, 2, 3, 16, den / 3, den / 2, den/2 + 1, den - 3, den - 2, den - 1, den} {
				checkTable(t, num, den, most)
			}
		}
	}
}

// P15.1: arguments at the ends of their ranges and outside, near and far, each with each.
func TestFitting(t *testing.T) {
	part := some(18, 1501)
	nums := join([]int{0, 1, 2, 16, 17, 500, 999, 1000}, far)
	mosts := join([]int{0, 1, 8, 15, 16, 17, 18, 32, 255, 256, 257, 1000}, far)
	fitting := 0
	for _, num := range nums {
		for _, den := range nums {
			for _, most := range mosts {
				if got := checkTable(t, num, den, most); got.Err == api.OK {
					fitting++
				}
				checkCount(t, part, num, den, most)
			}
		}
	}
	// Of dens 1, 2, 16, 17, 500, 999 and 1000 there are 2, 3, 4, .. 8 nums; of mosts 0, 1, 8, 15 and 16.
	if fitting != (2+3+4+5+6+7+8)*5 {
		t.Errorf("%d fit", fitting)
	}
}

// P15.1: each argument by itself just inside and just outside, the others in the midst of theirs.
func TestOneOutside(t *testing.T) {
	part := some(18, 1502)
	for _, c := range []struct {
		num, den, most int
		want           api.Errno
	}{
		{-1, 7, 4, api.ErrArg}, {0, 7, 4, api.OK}, {7, 7, 4, api.OK}, {8, 7, 4, api.ErrArg},
		{0, 0, 4, api.ErrArg}, {-1, -1, 4, api.ErrArg}, {-2, -1, 4, api.ErrArg}, {0, -1, 4, api.ErrArg}, {1, 0, 4, api.ErrArg},
		{0, 1, 4, api.OK}, {1, 1, 4, api.OK}, {2, 1, 4, api.ErrArg},
		{0, 1000, 4, api.OK}, {1000, 1000, 4, api.OK}, {1001, 1000, 4, api.ErrArg}, {-1, 1000, 4, api.ErrArg},
		{0, 1001, 4, api.ErrArg}, {1, 1001, 4, api.ErrArg}, {1001, 1001, 4, api.ErrArg},
		{3, 7, -1, api.ErrArg}, {3, 7, 0, api.OK}, {3, 7, 16, api.OK}, {3, 7, 17, api.ErrArg},
		{math.MinInt, 7, 4, api.ErrArg}, {math.MaxInt, 7, 4, api.ErrArg},
		{3, math.MinInt, 4, api.ErrArg}, {3, math.MaxInt, 4, api.ErrArg},
		{3, 7, math.MinInt, api.ErrArg}, {3, 7, math.MaxInt, api.ErrArg},
		{math.MaxInt, math.MaxInt, math.MaxInt, api.ErrArg}, {math.MinInt, math.MinInt, math.MinInt, api.ErrArg},
		{math.MinInt, math.MaxInt, 4, api.ErrArg}, {math.MaxInt, math.MinInt, 4, api.ErrArg},
	} {
		l, n := table(c.num, c.den, c.most), count(part, c.num, c.den, c.most)
		if l.Err != c.want || n.Err != c.want {
			t.Errorf("(%d, %d, %d): Table %v, Count %v; want error %d", c.num, c.den, c.most, l, n, c.want)
		}
		if c.want != api.OK && (len(l.List) != 0 || n.N != 0) {
			t.Errorf("(%d, %d, %d): Table %v, Count %v beside an error", c.num, c.den, c.most, l, n)
		}
	}
}

// P15.1: the weights of one in den are powers of den by which w0 is divided, rounded once.
func TestOneInDen(t *testing.T) {
	for den := 1; den <= 1000; den++ {
		for _, most := range []int{0, 1, 2, 3, 5, 16} {
			var w []uint64
			for k := range most + 1 {
				power := new(big.Int).Exp(big.NewInt(int64(den)), big.NewInt(int64(k)), nil)
				w = append(w, power.Div(big.NewInt(1<<32), power).Uint64())
			}
			if got, want := table(1, den, most), (tabled{List: tableOf(w)}); !got.same(want) {
				t.Errorf("Table(1, %d, %d) = %v; want %v", den, most, got, want)
			}
		}
	}
}

// P15.1: with num 0 there is never a noise cell; with num as den all numbers of them are alike, but for the rounding.
func TestEndsOfTheRatio(t *testing.T) {
	for den := 1; den <= 1000; den++ {
		for most := range 17 {
			var even []int
			for k := range most + 1 {
				even = append(even, 65536*(k+1)/(most+1))
			}
			if got := table(den, den, most); !got.same(tabled{List: even}) {
				t.Errorf("Table(%d, %d, %d) = %v; want %v", den, den, most, got, even)
			}
			if got := table(0, den, most); !got.same(tabled{List: slices.Repeat([]int{65536}, most+1)}) {
				t.Errorf("Table(0, %d, %d) = %v", den, most, got)
			}
		}
	}
}

// P15.1: a table has most + 1 numbers, rises, and ends with 65536; and no number of cells is likelier than a smaller one, but for the rounding.
func TestTablesRise(t *testing.T) {
	r := rand.New(rand.NewSource(1503))
	for range 20000 {
		den := 1 + r.Intn(1000)
		num, most := r.Intn(den+1), r.Intn(17)
		got := table(num, den, most)
		if len(got.List) != most+1 || got.Err != api.OK || got.List[most] != 65536 || got.List[0] < 65536/(most+1) {
			t.Fatalf("Table(%d, %d, %d) = %v", num, den, most, got)
		}
		before, step := 0, 65536
		for _, number := range got.List {
			if number < before || number-before > step+1 {
				t.Errorf("Table(%d, %d, %d) = %v", num, den, most, got)
			}
			before, step = number, number-before
		}
	}
}

// P15.1: the same ratio in greater numbers has the same table.
func TestSameRatio(t *testing.T) {
	for den := 1; den <= 20; den++ {
		for num := range den + 1 {
			want := table(num, den, 16)
			for factor := 1; factor*den <= 1000; factor++ {
				if got := table(factor*num, factor*den, 16); !got.same(want) {
					t.Errorf("Table(%d, %d, 16) = %v; want %v", factor*num, factor*den, got, want)
				}
			}
		}
	}
}

// ratios: of many kinds, with tables that rise strictly and that don't.
func ratios() []ratio {
	out := []ratio{{0, 1, 0}, {0, 1, 2}, {0, 1000, 16}, {1, 1, 0}, {1, 1, 3}, {1, 1, 16}, {1000, 1000, 16}, {1, 1000, 0}, {1, 1000, 1}, {1, 1000, 16}, {999, 1000, 16}}
	for _, k := range knownTables {
		out = append(out, ratio{k.num, k.den, k.most})
	}
	r := rand.New(rand.NewSource(1504))
	for range 40 {
		den := 1 + r.Intn(1000)
		out = append(out, ratio{r.Intn(den + 1), den, r.Intn(17)})
	}
	return out
}

// P15.1: Count at the values of u just below and just at each number of a table, at the ends, and where its two bytes would be one another's.
func TestCountAtEdges(t *testing.T) {
	behind := some(16, 1505)
	for _, a := range ratios() {
		for _, number := range join([]int{0, 1, 255, 256, 257, 32768, 65535}, definedTable(a.num, a.den, a.most).List) {
			for _, u := range []int{number - 1, number, number + 1, number%256*256 + number/256%256} {
				if u >= 0 && u < 65536 {
					checkCount(t, telling(u, behind), a.num, a.den, a.most)
				}
			}
		}
	}
}

// P15.1: Count is the least k whose number u is below: neither it nor the one ahead can be taken for it.
func TestCountIsTheLeast(t *testing.T) {
	r := rand.New(rand.NewSource(1506))
	for range 20000 {
		den := 1 + r.Intn(1000)
		num, most, u := r.Intn(den+1), r.Intn(17), r.Intn(65536)
		l, got := table(num, den, most).List, count(telling(u, make([]byte, 16)), num, den, most)
		k := got.N
		if got.Err != api.OK || k < 0 || k > most || u >= l[k] || (k > 0 && u < l[k-1]) {
			t.Errorf("Count at %d of (%d, %d, %d) = %v; the table is %v", u, num, den, most, got, l)
		}
	}
}

// P15.1: parts that are too short, just long enough and longer; room behind a short one makes it no longer.
func TestPartsOfCount(t *testing.T) {
	for n := range 18 {
		for _, part := range [][]byte{make([]byte, n), some(n, 1507), some(100, 1508)[:n], some(100, 1509)[50 : 50+n]} {
			for _, a := range ratios() {
				if got := count(part, a.num, a.den, a.most); got != (counted{Err: api.ErrTape}) {
					t.Errorf("Count of %d bytes, %v = %v", n, a, got)
				}
			}
		}
	}
	if got := count(nil, 1, 2, 3); got != (counted{Err: api.ErrTape}) {
		t.Errorf("Count of nil = %v", got)
	}
	for _, n := range []int{18, 19, 20, 31, 32, 33, 255, 256, 1000, 65536} {
		for seed := range int64(20) {
			part := some(n, 1510+seed)
			checkCount(t, part, 9, 10, 16)
			checkCount(t, part, 1, 1, int(seed%17))
		}
	}
}

// P15.1: Count's errors in their order: what doesn't fit ahead of a part that is too short.
func TestOrderOfErrorsOfCount(t *testing.T) {
	for _, part := range [][]byte{nil, {}, some(1, 1511), some(17, 1512), some(18, 1513), some(40, 1514)} {
		for _, a := range []ratio{{-1, 2, 3}, {3, 2, 3}, {0, 0, 3}, {1, 1001, 3}, {1, 2, -1}, {1, 2, 17}, {-1, 0, 17}, {math.MaxInt, math.MinInt, math.MaxInt}} {
			if got := count(part, a.num, a.den, a.most); got != (counted{Err: api.ErrArg}) {
				t.Errorf("Count of %d bytes, %v = %v; want error %d", len(part), a, got, api.ErrArg)
			}
		}
	}
}

// P15.1: the number hangs on the first two bytes alone: neither the key nor what stands behind it shows.
func TestCountHangsOnTwoBytes(t *testing.T) {
	for _, a := range []ratio{{1, 1, 16}, {9, 10, 16}, {2, 3, 2}, {1, 1000, 16}} {
		for _, u := range []int{0, 1, 255, 256, 3855, 32767, 32768, 51738, 65470, 65535} {
			want := count(telling(u, make([]byte, 16)), a.num, a.den, a.most)
			for seed := range int64(10) {
				for _, n := range []int{16, 17, 40, 500} {
					if got := count(telling(u, some(n, seed)), a.num, a.den, a.most); got != want {
						t.Errorf("Count at %d of %v = %v with other bytes behind; want %v", u, a, got, want)
					}
				}
			}
		}
	}
	// Each bit of the two shows.
	for bit := range 16 {
		part := telling(1<<bit, make([]byte, 16))
		if got := count(part, 1, 1, 15); got != (counted{N: (1 << bit) / 4096}) {
			t.Errorf("Count at %d = %v", 1<<bit, got)
		}
	}
}

// P15.3: of all values of u just so many count at most k as the table's number k says.
func TestAllValues(t *testing.T) {
	list := ratios()
	if testing.Short() {
		list = list[:20]
	}
	part := some(18, 1515)
	for _, a := range list {
		counts := make([]int, a.most+1)
		for u := range 65536 {
			part[0], part[1] = byte(u>>8), byte(u)
			got := count(part, a.num, a.den, a.most)
			if got.Err != api.OK || got.N < 0 || got.N > a.most {
				t.Fatalf("Count at %d of %v = %v", u, a, got)
			}
			counts[got.N]++
		}
		sum := 0
		for k, number := range table(a.num, a.den, a.most).List {
			sum += counts[k]
			if sum != number {
				t.Errorf("%v: %d values count at most %d; the table says %d", a, sum, k, number)
			}
		}
	}
}

// P15.3: a greater u never counts fewer cells, for every most.
func TestCountsRise(t *testing.T) {
	part := some(18, 1516)
	for most := range 17 {
		last := 0
		for u := range 65536 {
			part[0], part[1] = byte(u>>8), byte(u)
			got := count(part, 7, 8, most)
			if got.N < last || got.N > last+1 {
				t.Fatalf("Count at %d of (7, 8, %d) = %v, behind %d", u, most, got, last)
			}
			last = got.N
		}
		if last != most {
			t.Errorf("(7, 8, %d): the greatest u counts %d", most, last)
		}
	}
}
