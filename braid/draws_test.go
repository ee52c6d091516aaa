package braid_test

import (
	"fmt"
	"math"
	"math/rand"
	"slices"
	"testing"

	"churn/api"
	"churn/braid"
)

// noSizes: lists that aren't sizes: none, too many, one below 0 or together more than MaxBatch, at each place, and sums that wrap round.
func noSizes() [][]int {
	out := [][]int{nil, {}, times(65, 0), times(65, 1), times(66, 0), times(256, 1), times(1000, 0),
		{257}, {256, 1}, {1, 256}, {128, 129}, {0, 257, 0}, {256, 0, 1}, {1, 1, 255}, times(64, 5), append(times(63, 4), 5), {258, -1},
		{-1, 258}, {-1}, {-1, 1}, {1, -1}, {2, -1, 1}, {0, -1, 0}, {256, -1}, {-1, 256}, {256, -256}, {257, -257}, {300, -100},
		{math.MaxInt, math.MaxInt, 2}, {math.MaxInt, math.MaxInt, 3}, {1, math.MaxInt}, {math.MaxInt, 1}, {256, math.MaxInt},
		{math.MinInt, math.MinInt}, {math.MinInt, math.MaxInt, 1}, {math.MaxInt, math.MinInt}, times(4, 1<<62), times(64, math.MaxInt)}
	for _, good := range [][]int{{0}, {3}, {2, 1}, {0, 2, 0, 1}, {1, 1, 1, 1}} {
		for at := range good {
			for _, v := range far {
				out = append(out, with(good, at, v))
			}
		}
	}
	return out
}

// P12.1: what aren't sizes is ErrArg in both calls, whatever stands beside it: noughts, and what would be draws, a pattern and offsets, could they be sizes.
func TestNoSizes(t *testing.T) {
	for _, bad := range noSizes() {
		chunk := inOrder(littleOnes(bad))
		for _, m := range []int{0, 1, 2, 3, 255, 256, 257, len(bad), len(chunk)} {
			if got := pattern(bad, times(m, 0)); !got.same(untold) {
				t.Errorf("Pattern(%s, %d noughts) = %v; want error 2", brief(bad), m, got)
			}
			for _, c := range [][]int{times(m, 0), chunk} {
				if got := draws(bad, c, times(m, 0)); !got.same(refused) {
					t.Errorf("Draws(%s, %s, %d noughts) = %v; want error 2", brief(bad), brief(c), m, got)
				}
			}
		}
	}
}

// littleOnes: the list with noughts for all that is below 0 or far above any size.
func littleOnes(list []int) []int {
	out := slices.Clone(list)
	for j, s := range out {
		if s < 0 || s > 1000 {
			out[j] = 0
		}
	}
	return out
}

// P12.1: exactly MaxChunks sizes and exactly MaxBatch things are taken.
func TestGreatestSizes(t *testing.T) {
	r := rand.New(rand.NewSource(1202))
	spread := append(times(60, 0), 100, 0, 155, 1)
	for _, s := range [][]int{{256}, {255, 1}, {1, 255}, {128, 128}, {0, 256, 0}, times(64, 0), times(64, 1), times(64, 4), spread, append(times(63, 0), 256), append([]int{256}, times(63, 0)...)} {
		bounds := falling(total(s))
		for _, d := range [][]int{times(len(bounds), 0), tops(bounds), below(r, bounds), below(r, bounds)} {
			checkBothWays(t, s, d)
		}
		chunk, offset := anyPattern(r, s), below(r, offsetBounds(s))
		checkDraws(t, s, chunk, offset)
		if got := draws(s, chunk, offset); got.Err != api.OK {
			t.Errorf("Draws of %s: error %d", brief(s), got.Err)
		}
	}
}

// P12.1: too few and too many draws, each of which is in its range as far as it has one.
func TestNumberOfDraws(t *testing.T) {
	for _, s := range [][]int{{0}, {0, 0}, {1}, {2, 1}, {0, 2, 0, 1}, {3, 3, 3}, times(5, 4)} {
		n := total(s)
		for m := range n + 4 {
			got := pattern(s, times(m, 0))
			if m == n && (got.Err != api.OK || len(got.Chunk) != n || len(got.Offset) != n) || m != n && !got.same(untold) {
				t.Errorf("Pattern(%v, %d noughts) = %v", s, m, got)
			}
		}
	}
	for _, m := range []int{0, 1, 255, 257, 258, 1000} {
		if got := pattern([]int{256}, times(m, 0)); !got.same(untold) {
			t.Errorf("Pattern(256, %d noughts) = %v; want error 2", m, got)
		}
	}
}

// P12.1: each draw at both ends of its range, just outside it and far outside, the others being any.
func TestEndsOfDraws(t *testing.T) {
	r := rand.New(rand.NewSource(1203))
	for _, s := range [][]int{{1}, {2}, {2, 1}, {1, 1}, {0, 3, 0, 2}, {4, 4, 4, 3}, {256}, times(64, 4)} {
		bounds := falling(total(s))
		for i, b := range bounds {
			others := below(r, bounds)
			for _, good := range []int{0, b - 1} {
				checkBothWays(t, s, with(others, i, good))
			}
			for _, bad := range append([]int{-1, b, b + 1}, far...) {
				if got := pattern(s, with(others, i, bad)); !got.same(untold) {
					t.Errorf("Pattern(%s, %s), draw %d below %d: %v; want error 2", brief(s), brief(with(others, i, bad)), i, b, got)
				}
			}
		}
	}
}

// P12.1: each place of a pattern with a chunk number outside, or with another chunk's, which then stands too often and the place's own too seldom.
func TestNoPatterns(t *testing.T) {
	r := rand.New(rand.NewSource(1204))
	for _, s := range [][]int{{1}, {3}, {2, 1}, {0, 3, 0, 2}, {1, 1, 1, 1}, {4, 4, 4, 3}, times(64, 4)} {
		chunk, offset := anyPattern(r, s), below(r, offsetBounds(s))
		if got := draws(s, chunk, offset); got.Err != api.OK {
			t.Fatalf("Draws(%s, %s, %s): error %d", brief(s), brief(chunk), brief(offset), got.Err)
		}
		for i, j := range chunk {
			bad := append([]int{-1, len(s), len(s) + 1, -len(s), j - len(s), j + len(s)}, far...)
			for other := range s {
				if other != j {
					bad = append(bad, other)
				}
			}
			for _, v := range bad {
				if got := draws(s, with(chunk, i, v), offset); !got.same(refused) {
					t.Errorf("Draws(%s, %s, ..): %v; want error 2", brief(s), brief(with(chunk, i, v)), got)
				}
			}
		}
	}
}

// P12.1: a pattern with a place too few or too many, of whichever chunk, with offsets that fit the sizes and with such as fit the pattern's length.
func TestLengthOfPattern(t *testing.T) {
	for _, s := range [][]int{{0}, {0, 0}, {1}, {2, 1}, {0, 2, 0, 1}, {3, 3, 3}, {256}, times(64, 4)} {
		chunk := inOrder(s)
		for _, m := range []int{0, len(chunk) - 1, len(chunk), len(chunk) + 1} {
			offset := times(max(m, 0), 0)
			for i := range chunk {
				if got := draws(s, slices.Delete(slices.Clone(chunk), i, i+1), offset); !got.same(refused) {
					t.Errorf("Draws(%s, without place %d, %d noughts): %v; want error 2", brief(s), i, m, got)
				}
			}
			for j := range s {
				for _, longer := range [][]int{append(slices.Clone(chunk), j), append([]int{j}, chunk...)} {
					if got := draws(s, longer, offset); !got.same(refused) {
						t.Errorf("Draws(%s, one %d too many, %d noughts): %v; want error 2", brief(s), j, m, got)
					}
				}
			}
			if len(chunk) > 0 {
				if got := draws(s, nil, offset); !got.same(refused) {
					t.Errorf("Draws(%s, nothing, %d noughts): %v; want error 2", brief(s), m, got)
				}
			}
		}
	}
}

// P12.1: too few and too many offsets, each of which is in its range as far as it has one.
func TestNumberOfOffsets(t *testing.T) {
	for _, s := range [][]int{{0}, {0, 0}, {1}, {2, 1}, {0, 2, 0, 1}, {3, 3, 3}, {256}, times(64, 4)} {
		chunk := inOrder(s)
		for _, m := range []int{0, 1, 2, 3, 4, len(chunk) - 1, len(chunk), len(chunk) + 1, len(chunk) + 2, 1000} {
			if m < 0 {
				continue
			}
			got := draws(s, chunk, times(m, 0))
			if m == len(chunk) && (got.Err != api.OK || len(got.List) != m) || m != len(chunk) && !got.same(refused) {
				t.Errorf("Draws(%s, %s, %d noughts) = %v", brief(s), brief(chunk), m, got)
			}
		}
	}
}

// P12.1: each offset at both ends of its range, just outside it and far outside, the others and the pattern being any.
func TestEndsOfOffsets(t *testing.T) {
	r := rand.New(rand.NewSource(1205))
	for _, s := range [][]int{{1}, {2}, {2, 1}, {1, 2}, {1, 1}, {0, 3, 0, 2}, {4, 4, 4, 3}, {256}, times(64, 4)} {
		bounds := offsetBounds(s)
		for i, b := range bounds {
			chunk, others := anyPattern(r, s), below(r, bounds)
			for _, good := range []int{0, b - 1} {
				offset := with(others, i, good)
				checkDraws(t, s, chunk, offset)
				if got := draws(s, chunk, offset); got.Err != api.OK {
					t.Errorf("Draws(%s, %s, %s): error %d", brief(s), brief(chunk), brief(offset), got.Err)
				}
			}
			for _, bad := range append([]int{-1, b, b + 1}, far...) {
				if got := draws(s, chunk, with(others, i, bad)); !got.same(refused) {
					t.Errorf("Draws(%s, %s, %s), offset %d below %d: %v; want error 2", brief(s), brief(chunk), brief(with(others, i, bad)), i, b, got)
				}
			}
		}
	}
}

// P12.1: every list of draws that has the right number of them or one more or less, each in reach or one outside, of small sizes.
func TestEveryDraws(t *testing.T) {
	for _, s := range smallSizes(3, 4) {
		n := total(s)
		for m := max(n-1, 0); m <= n+1 && m <= 4; m++ {
			for _, d := range listsFrom(-1, n, m) {
				checkPattern(t, s, d)
			}
		}
	}
}

// P12.1: every pattern and offsets, in reach or one outside, of small sizes; and lists of one number more or less.
func TestEveryPatternAndOffsets(t *testing.T) {
	for _, s := range smallSizes(3, 3) {
		n := total(s)
		offsets := listsFrom(-1, n, n)
		for _, chunk := range listsFrom(-1, len(s), n) {
			for _, offset := range offsets {
				checkDraws(t, s, chunk, offset)
			}
		}
		for m := max(n-1, 0); m <= n+1; m++ {
			for _, chunk := range listsFrom(0, len(s)-1, m) {
				for k := max(n-1, 0); k <= n+1; k++ {
					checkDraws(t, s, chunk, times(k, 0))
				}
			}
		}
	}
}

// P12.1: every list of up to three sizes, in reach or one below 0, with all draws of up to three things.
func TestEverySmallSizes(t *testing.T) {
	for c := range 4 {
		for _, s := range listsFrom(-1, 2, c) {
			for n := range 4 {
				for _, d := range lists(falling(n)) {
					checkPattern(t, s, d)
					checkDraws(t, s, d, times(n, 0))
				}
			}
		}
	}
}

// ways: how many patterns of sizes there are, and how many lists of offsets by visits.
func ways(sizes []int) (patterns, offsets int) {
	patterns, offsets = 1, 1
	for k := 2; k <= total(sizes); k++ {
		patterns *= k
	}
	for _, s := range sizes {
		for k := 2; k <= s; k++ {
			patterns, offsets = patterns/k, offsets*k
		}
	}
	return patterns, offsets
}

// P12.1, P12.3: of small sizes all lists of draws are told and taken back; every pattern is told, each by equally many lists of draws, one for every list of offsets.
func TestAllDrawsOfSmallSizes(t *testing.T) {
	for _, s := range smallSizes(4, 6) {
		told := map[string]map[string]int{}
		for _, d := range lists(falling(total(s))) {
			checkBothWays(t, s, d)
			got := pattern(s, d)
			if !isPattern(s, got.Chunk) || !within(got.Offset, offsetBounds(s)) {
				t.Fatalf("Pattern(%v, %v) = %v", s, d, got)
			}
			chunk := fmt.Sprint(got.Chunk)
			if told[chunk] == nil {
				told[chunk] = map[string]int{}
			}
			told[chunk][fmt.Sprint(got.Offset)]++
		}
		patterns, offsets := ways(s)
		if len(told) != patterns {
			t.Errorf("%v: %d patterns are told; want %d", s, len(told), patterns)
		}
		for chunk, by := range told {
			if len(by) != offsets {
				t.Errorf("%v: %s has %d lists of offsets; want %d", s, chunk, len(by), offsets)
			}
			for offset, often := range by {
				if often != 1 {
					t.Errorf("%v: %s with the offsets %s is told by %d lists of draws; want 1", s, chunk, offset, often)
				}
			}
		}
	}
}

// P12.1, P12.3: of small sizes each pattern with every list of offsets has draws, and these tell both again.
func TestAllPatternsOfSmallSizes(t *testing.T) {
	for _, s := range smallSizes(4, 5) {
		offsets := lists(offsetBounds(s))
		given, patterns := map[string]int{}, 0
		for _, chunk := range lists(times(total(s), len(s))) {
			if !isPattern(s, chunk) {
				continue
			}
			patterns++
			for _, offset := range offsets {
				d := draws(s, chunk, offset)
				if back := pattern(s, d.List); d.Err != api.OK || !back.same(telling{chunk, offset, api.OK}) {
					t.Errorf("Pattern(%v, Draws(%v, %v) = %v) = %v", s, chunk, offset, d, back)
				}
				given[fmt.Sprint(d.List)]++
			}
		}
		if all := len(lists(falling(total(s)))); len(given) != all || patterns*len(offsets) != all {
			t.Errorf("%v: %d patterns with %d lists of offsets give %d lists of draws; want %d", s, patterns, len(offsets), len(given), all)
		}
	}
}

// checkCarried: the pattern of one list of draws with the offsets of another.
func checkCarried(t *testing.T, s, one, other []int) {
	t.Helper()
	a, b := pattern(s, one), pattern(s, other)
	d := draws(s, a.Chunk, b.Offset)
	if d.Err != api.OK || !within(d.List, falling(total(s))) {
		t.Errorf("%s: the pattern of %s with the offsets of %s: %v", brief(s), brief(one), brief(other), d)
	}
	if got := pattern(s, d.List); !got.same(telling{a.Chunk, b.Offset, api.OK}) {
		t.Errorf("%s: the pattern of %s with the offsets of %s: told again %v", brief(s), brief(one), brief(other), got)
	}
}

// P12.3: offsets can be carried over: each two lists of draws of small sizes, and longer ones without a rule.
func TestCarriedOver(t *testing.T) {
	for _, s := range smallSizes(4, 4) {
		all := lists(falling(total(s)))
		for _, one := range all {
			for _, other := range all {
				checkCarried(t, s, one, other)
			}
		}
	}
	r := rand.New(rand.NewSource(1206))
	for range 500 {
		s := anySizes(r, 1+r.Intn(64), 256)
		bounds := falling(total(s))
		checkCarried(t, s, below(r, bounds), below(r, bounds))
	}
	for _, s := range [][]int{{256}, times(64, 4), {128, 128}, append(times(63, 1), 193)} {
		bounds := falling(total(s))
		checkCarried(t, s, times(256, 0), tops(bounds))
		checkCarried(t, s, tops(bounds), times(256, 0))
		checkCarried(t, s, below(r, bounds), below(r, bounds))
	}
}

// P12.1: one chunk alone has one pattern, and the offsets are the draws; chunks of one thing have offsets of 0.
func TestPlainSizes(t *testing.T) {
	r := rand.New(rand.NewSource(1207))
	for n := range 257 {
		d := below(r, falling(n))
		if got := pattern([]int{n}, d); !got.same(telling{times(n, 0), d, api.OK}) {
			t.Errorf("Pattern(%d alone, %s) = %v", n, brief(d), got)
		}
		if n == 0 || n > 64 {
			continue
		}
		ones := times(n, 1)
		if got := pattern(ones, d); got.Err != api.OK || !slices.Equal(got.Offset, times(n, 0)) {
			t.Errorf("Pattern(%d ones, %s) = %v", n, brief(d), got)
		}
		if got := pattern(ones, times(n, 0)); !got.same(telling{inOrder(ones), times(n, 0), api.OK}) {
			t.Errorf("Pattern(%d ones, noughts) = %v", n, got)
		}
	}
	for _, s := range [][]int{{2, 1}, {0, 3, 0, 2, 0}, {5, 1, 4, 2}, times(64, 4)} {
		n := total(s)
		if got := pattern(s, times(n, 0)); !got.same(telling{inOrder(s), times(n, 0), api.OK}) {
			t.Errorf("Pattern(%s, noughts) = %v", brief(s), got)
		}
		turned := inOrder(s)
		slices.Reverse(turned)
		if got := pattern(s, tops(falling(n))); !got.same(telling{turned, tops(offsetBounds(s)), api.OK}) {
			t.Errorf("Pattern(%s, the greatest draws) = %v", brief(s), got)
		}
	}
}

// anyOf: a good list, or one with a fault.
func anyOf(r *rand.Rand, list []int) []int {
	list = slices.Clone(list)
	switch kind := r.Intn(12); {
	case kind == 0:
		list = append(list, 0)
	case len(list) == 0 || kind > 4:
	case kind == 1:
		list = list[1:]
	case kind == 2:
		list[r.Intn(len(list))] = far[r.Intn(len(far))]
	case kind == 3:
		list[r.Intn(len(list))] += r.Intn(3) - 1
	default:
		i, j := r.Intn(len(list)), r.Intn(len(list))
		list[i], list[j] = list[j], list[i]
	}
	return list
}

// P12.1: arguments without a rule, held against the chapter's words.
func TestAnyArguments(t *testing.T) {
	r := rand.New(rand.NewSource(1208))
	for i := range 20000 {
		chunks, n := 1+r.Intn(6), 12
		if i%100 == 0 {
			chunks, n = 1+r.Intn(64), 256
		}
		s := anySizes(r, chunks, n)
		checkBothWays(t, s, below(r, falling(total(s))))
		checkPattern(t, anyOf(r, s), anyOf(r, below(r, falling(total(s)))))
		checkDraws(t, anyOf(r, s), anyOf(r, anyPattern(r, s)), anyOf(r, below(r, offsetBounds(s))))
	}
}

func ExamplePattern() {
	sizes := []int{2, 1}
	chunk, offset, e := braid.Pattern(sizes, []int{2, 1, 0})
	fmt.Println(chunk, offset, int(e))
	d, e := braid.Draws(sizes, chunk, offset)
	fmt.Println(d, int(e))
	_, _, e = braid.Pattern(sizes, []int{3, 0, 0})
	fmt.Println(e == api.ErrArg)
	// Output:
	// [1 0 0] [1 0 0] 0
	// [2 1 0] 0
	// true
}

func ExampleDraws() {
	// The pattern of 1 0 0 with the offsets of 0 0 0.
	chunk, _, _ := braid.Pattern([]int{2, 1}, []int{1, 0, 0})
	_, offset, _ := braid.Pattern([]int{2, 1}, []int{0, 0, 0})
	d, e := braid.Draws([]int{2, 1}, chunk, offset)
	fmt.Println(d, int(e))
	// Output:
	// [0 0 0] 0
}
