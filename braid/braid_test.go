package braid_test

import (
	"fmt"
	"math"
	"math/rand"
	"slices"
	"sync"
	"testing"

	"churn/api"
	"churn/braid"
)

// P12.1, P12.2: the chapter's examples.
func TestExamples(t *testing.T) {
	for _, c := range []struct {
		what      string
		got, want answer
	}{
		{"Sizes(7, 3)", sizes(7, 3), answer{List: []int{3, 2, 2}}},
		{"Sizes(2, 4)", sizes(2, 4), answer{List: []int{1, 1, 0, 0}}},
		{"Sizes(0, 2)", sizes(0, 2), answer{List: []int{0, 0}}},
		{"Sizes(257, 1)", sizes(257, 1), refused},
		{"Sizes(-1, 1)", sizes(-1, 1), refused},
		{"Sizes(1, 0)", sizes(1, 0), refused},
		{"Draws(2 1, 0 0 1, 1 0 0)", draws([]int{2, 1}, []int{0, 0, 1}, []int{1, 0, 0}), answer{List: []int{1, 0, 0}}},
	} {
		if !c.got.same(c.want) {
			t.Errorf("%s = %v; want %v", c.what, c.got, c.want)
		}
	}
	if b := braid.Bounds(3); !slices.Equal(b, []int{3, 2, 1}) {
		t.Errorf("Bounds(3) = %v", b)
	}
	if b := braid.Bounds(0); len(b) > 0 {
		t.Errorf("Bounds(0) = %v", b)
	}
	for _, c := range []struct {
		draws []int
		want  telling
	}{
		{[]int{2, 1, 0}, telling{[]int{1, 0, 0}, []int{1, 0, 0}, api.OK}},
		{[]int{1, 1, 0}, telling{[]int{0, 1, 0}, []int{1, 0, 0}, api.OK}},
		{[]int{3, 0, 0}, untold},
	} {
		if got := pattern([]int{2, 1}, c.draws); !got.same(c.want) {
			t.Errorf("Pattern(2 1, %v) = %v; want %v", c.draws, got, c.want)
		}
	}
	chunks := [][]string{{"a", "b"}, {"c"}}
	if l, e := braid.Weave([]int{1, 0, 0}, chunks); !slices.Equal(l, []string{"c", "a", "b"}) || e != api.OK {
		t.Errorf("Weave(1 0 0, ..) = %v, error %d", l, e)
	}
	if l, e := braid.Weave([]int{1, 0}, chunks); len(l) > 0 || e != api.ErrArg {
		t.Errorf("Weave(1 0, ..) = %v, error %d", l, e)
	}
}

// P12.1, P12.2: the errors' numbers, as the document tells them.
func TestNumbersOfErrors(t *testing.T) {
	_, woven := braid.Weave([]int{0}, [][]string{})
	for what, e := range map[string]api.Errno{
		"Sizes": sizes(-1, 1).Err, "Pattern": pattern(nil, nil).Err, "Draws": draws(nil, nil, nil).Err, "Weave": woven,
	} {
		if int(e) != 2 {
			t.Errorf("%s: error %d; want 2", what, e)
		}
	}
	_, woven = braid.Weave([]int{0}, [][]string{{"a"}})
	one := []int{1}
	for what, e := range map[string]api.Errno{
		"Sizes": sizes(1, 1).Err, "Pattern": pattern(one, []int{0}).Err, "Draws": draws(one, []int{0}, []int{0}).Err, "Weave": woven,
	} {
		if int(e) != 0 {
			t.Errorf("%s: error %d; want 0", what, e)
		}
	}
}

// P12.1: every n with every number of chunks: so many sizes, together n, none more than one above another, the greater ones first.
func TestEverySizes(t *testing.T) {
	for n := range 257 {
		for chunks := 1; chunks <= 64; chunks++ {
			got := sizes(n, chunks)
			if want := definedSizes(n, chunks); !got.same(want) {
				t.Errorf("Sizes(%d, %d) = %v; want %v", n, chunks, got, want)
			}
			if len(got.List) != chunks || total(got.List) != n || slices.Max(got.List)-slices.Min(got.List) > 1 {
				t.Fatalf("Sizes(%d, %d) = %v", n, chunks, got)
			}
			for j := range chunks - 1 {
				if got.List[j] < got.List[j+1] {
					t.Errorf("Sizes(%d, %d) = %v: a greater one behind", n, chunks, got)
				}
			}
			if chunks > n && got.List[chunks-1] != 0 {
				t.Errorf("Sizes(%d, %d) = %v: the last one isn't 0", n, chunks, got)
			}
		}
	}
}

// P12.1: Sizes at the ends of both ranges, just outside and far outside.
func TestEndsOfSizes(t *testing.T) {
	for _, n := range append([]int{0, 1, 2, 63, 64, 65, 255, 256, 257, 258}, far...) {
		for _, chunks := range append([]int{0, 1, 2, 63, 64, 65, 66, 255, 256}, far...) {
			if got, want := sizes(n, chunks), definedSizes(n, chunks); !got.same(want) {
				t.Errorf("Sizes(%d, %d) = %v; want %v", n, chunks, got, want)
			}
		}
	}
	for _, c := range [][2]int{{0, 0}, {-1, 0}, {257, 65}, {256, 65}, {256, 0}, {256, -1}, {257, 64}, {-1, 64}, {1, math.MinInt}, {math.MaxInt, 1}} {
		if got := sizes(c[0], c[1]); !got.same(refused) {
			t.Errorf("Sizes(%d, %d) = %v; want error 2", c[0], c[1], got)
		}
	}
	if got := sizes(256, 64); !got.same(answer{List: times(64, 4)}) {
		t.Errorf("Sizes(256, 64) = %v", got)
	}
	if got := sizes(256, 1); !got.same(answer{List: []int{256}}) {
		t.Errorf("Sizes(256, 1) = %v", got)
	}
}

// P12.1: Bounds of numbers below 0, of 0, 1, each one up to MaxBatch, and above it.
func TestBounds(t *testing.T) {
	for _, n := range append([]int{0, 257, 258, 512}, far...) {
		if l := braid.Bounds(n); len(l) > 0 {
			t.Errorf("Bounds(%d) = %s; want nothing", n, brief(l))
		}
	}
	for n := -10; n < 300; n++ {
		if l, want := braid.Bounds(n), definedBounds(n); !slices.Equal(l, want) {
			t.Errorf("Bounds(%d) = %s; want %s", n, brief(l), brief(want))
		}
	}
	if l := braid.Bounds(1); !slices.Equal(l, []int{1}) {
		t.Errorf("Bounds(1) = %v", l)
	}
	if l := braid.Bounds(256); len(l) != 256 || l[0] != 256 || l[128] != 128 || l[255] != 1 {
		t.Errorf("Bounds(256) = %s", brief(l))
	}
}

// P12.1: Bounds are the bounds of a pattern's draws: what is below them is taken, what is not is refused.
func TestBoundsOfDraws(t *testing.T) {
	for n := 1; n <= 256; n += 5 {
		for _, chunks := range []int{1, 2, 3, 64} {
			cut, bounds := sizes(n, chunks).List, braid.Bounds(n)
			if got := pattern(cut, tops(bounds)); got.Err != api.OK {
				t.Errorf("Pattern(Sizes(%d, %d), Bounds less 1): error %d", n, chunks, got.Err)
			}
			for i, b := range bounds {
				if got := pattern(cut, with(tops(bounds), i, b)); !got.same(untold) {
					t.Errorf("Pattern(Sizes(%d, %d), draw %d of %d): %v; want error 2", n, chunks, i, b, got)
				}
			}
		}
	}
}

// known: draws and the pattern and offsets that they tell; other draws' offsets, and the draws that tell the first pattern with these; and letters woven: all told by another program.
var known = []struct {
	sizes, draws, chunk, offset   []int
	otherDraws, otherOff, carried []int
	woven                         string
}{
	{[]int{3, 2, 2}, []int{6, 2, 2, 3, 0, 0, 0}, []int{2, 0, 1, 2, 0, 0, 1}, []int{2, 0, 0, 0, 0, 1, 0},
		[]int{3, 2, 0, 0, 1, 1, 0}, []int{2, 0, 0, 0, 0, 0, 0}, []int{5, 2, 2, 3, 0, 0, 0}, "fadgbce"},
	{[]int{1, 1, 1, 1, 0, 0}, []int{0, 2, 1, 0}, []int{0, 3, 2, 1}, []int{0, 0, 0, 0},
		[]int{2, 1, 0, 0}, []int{0, 0, 0, 0}, []int{0, 2, 1, 0}, "adcb"},
	{[]int{0, 4, 0, 0, 3, 0}, []int{1, 4, 0, 0, 2, 0, 0}, []int{1, 4, 1, 1, 4, 1, 4}, []int{1, 0, 0, 0, 1, 1, 0},
		[]int{4, 3, 1, 3, 2, 0, 0}, []int{3, 1, 0, 0, 0, 1, 0}, []int{3, 3, 1, 0, 2, 0, 0}, "aebcfdg"},
	{[]int{8}, []int{6, 3, 4, 0, 1, 2, 1, 0}, []int{0, 0, 0, 0, 0, 0, 0, 0}, []int{6, 3, 4, 0, 1, 2, 1, 0},
		[]int{6, 6, 4, 2, 1, 2, 1, 0}, []int{6, 6, 4, 2, 1, 2, 1, 0}, []int{6, 6, 4, 2, 1, 2, 1, 0}, "abcdefgh"},
	{[]int{5, 1, 4, 2}, []int{5, 6, 0, 3, 2, 3, 2, 4, 1, 1, 0, 0}, []int{1, 2, 0, 0, 0, 2, 2, 3, 0, 2, 0, 3},
		[]int{0, 3, 2, 1, 0, 0, 1, 1, 0, 0, 1, 0}, []int{11, 0, 3, 5, 7, 5, 0, 3, 0, 0, 0, 0}, []int{0, 3, 0, 0, 0, 0, 1, 1, 0, 0, 1, 0},
		[]int{5, 6, 0, 3, 0, 3, 2, 4, 0, 1, 0, 0}, "fgabchikdjel"},
	{[]int{4, 4, 4, 3}, []int{14, 10, 2, 4, 9, 1, 5, 6, 4, 5, 2, 2, 1, 0, 0}, []int{3, 2, 0, 1, 3, 0, 2, 2, 1, 3, 1, 1, 0, 0, 2},
		[]int{2, 1, 1, 0, 1, 2, 0, 0, 2, 0, 1, 0, 2, 0, 0}, []int{6, 6, 12, 1, 7, 0, 2, 6, 2, 0, 0, 3, 0, 0, 0},
		[]int{1, 0, 0, 0, 2, 2, 0, 0, 2, 0, 0, 0, 2, 0, 0}, []int{14, 10, 1, 5, 9, 0, 5, 5, 4, 5, 2, 2, 0, 0, 0}, "miaenbjkfoghcdl"},
}

// P12.1, P12.2, P12.3: what another program told.
func TestKnown(t *testing.T) {
	for _, k := range known {
		if got := pattern(k.sizes, k.draws); !got.same(telling{k.chunk, k.offset, api.OK}) {
			t.Errorf("Pattern(%v, %v) = %v; want %v, %v", k.sizes, k.draws, got, k.chunk, k.offset)
		}
		if got := draws(k.sizes, k.chunk, k.offset); !got.same(answer{List: k.draws}) {
			t.Errorf("Draws(%v, %v, %v) = %v; want %v", k.sizes, k.chunk, k.offset, got, k.draws)
		}
		if got := pattern(k.sizes, k.otherDraws); !slices.Equal(got.Offset, k.otherOff) || got.Err != api.OK {
			t.Errorf("Pattern(%v, %v) = %v; want the offsets %v", k.sizes, k.otherDraws, got, k.otherOff)
		}
		if got := draws(k.sizes, k.chunk, k.otherOff); !got.same(answer{List: k.carried}) {
			t.Errorf("Draws(%v, %v, %v) = %v; want %v", k.sizes, k.chunk, k.otherOff, got, k.carried)
		}
		woven, e := braid.Weave(k.chunk, cut([]byte("abcdefghijklmnopqrst")[:len(k.chunk)], k.sizes))
		if string(woven) != k.woven || e != api.OK {
			t.Errorf("Weave(%v, ..) = %s, error %d; want %s", k.chunk, woven, e, k.woven)
		}
	}
}

// calls: each call that gives a list of numbers, of these arguments; Pattern twice, once for each of its lists.
func calls(sizes, a, b []int) map[string]func() ([]int, api.Errno) {
	return map[string]func() ([]int, api.Errno){
		"Pattern's chunks": func() ([]int, api.Errno) {
			chunk, _, e := braid.Pattern(sizes, a)
			return chunk, e
		},
		"Pattern's offsets": func() ([]int, api.Errno) {
			_, offset, e := braid.Pattern(sizes, a)
			return offset, e
		},
		"Draws":     func() ([]int, api.Errno) { return braid.Draws(sizes, a, b) },
		"Weave":     func() ([]int, api.Errno) { return braid.Weave(a, [][]int{b, sizes, b[:len(b)/2]}) },
		"Weave two": func() ([]int, api.Errno) { return braid.Weave([]int{0, 1}, [][]int{{7}, {8}}) },
		"Sizes":     func() ([]int, api.Errno) { return braid.Sizes(len(a), len(sizes)) },
		"Bounds":    func() ([]int, api.Errno) { return braid.Bounds(len(a)), api.OK },
	}
}

// threes: good arguments of Pattern, Draws and Weave, and bad ones.
func threes() [][3][]int {
	out := [][3][]int{{nil, nil, nil}, {{0}, nil, nil}, {{2, 1}, {3, 0, 0}, {1, 0, 0}}, {{2, 1}, {0, 0, 2}, {1, 0, 0}},
		{{-1, 1}, {0}, {0}}, {{1, 1}, {0, 1}, {1, 0}}, {{7}, {0, 2, 0, 1, 2}, {4, 5}}}
	for _, k := range known {
		out = append(out, [3][]int{k.sizes, k.draws, k.offset}, [3][]int{k.sizes, k.chunk, k.otherOff})
	}
	r := rand.New(rand.NewSource(1201))
	for range 40 {
		s := anySizes(r, 1+r.Intn(6), 30)
		out = append(out, [3][]int{s, below(r, falling(total(s))), nil}, [3][]int{s, anyPattern(r, s), below(r, offsetBounds(s))})
	}
	return out
}

// Rule 5: what is handed in stays as it is, its spare room too, and what is answered is memory of its own.
func TestMemory(t *testing.T) {
	for _, c := range threes() {
		var inside, all, before [3][]int
		for i := range c {
			inside[i], all[i] = withRoom(c[i], 90+i)
			before[i] = slices.Clone(all[i])
		}
		for what, call := range calls(inside[0], inside[1], inside[2]) {
			first, e := call()
			want := answer{slices.Clone(first), e}
			second, _ := call()
			grown := append(first, 1, 2, 3)
			clear(first[:cap(first)])
			clear(grown)
			if got := (answer{second, e}); !got.same(want) {
				t.Errorf("%s of %v: %v beside a changed answer; want %v", what, c, got, want)
			}
			clear(second[:cap(second)])
			for i := range all {
				if !slices.Equal(all[i], before[i]) {
					t.Fatalf("%s of %v: what was handed in has changed", what, c)
				}
			}
		}
	}
}

// Rule 5: the two lists of Pattern's answer share no memory, their spare room included.
func TestTwoListsOfOneAnswer(t *testing.T) {
	for _, k := range known {
		chunk, offset, _ := braid.Pattern(k.sizes, k.draws)
		chunk = append(chunk, 77, 78)
		clear(chunk[:cap(chunk)])
		if !slices.Equal(offset, k.offset) {
			t.Errorf("Pattern(%v, %v): the offsets are %v beside changed chunks", k.sizes, k.draws, offset)
		}
		chunk, offset, _ = braid.Pattern(k.sizes, k.draws)
		offset = append(offset, 77, 78)
		clear(offset[:cap(offset)])
		if !slices.Equal(chunk, k.chunk) {
			t.Errorf("Pattern(%v, %v): the chunks are %v beside changed offsets", k.sizes, k.draws, chunk)
		}
	}
}

// Rule 5: an answer is not changed by what becomes of the lists that were handed in, nor of the answers to other calls.
func TestAnswersStay(t *testing.T) {
	for _, c := range threes() {
		for what := range calls(nil, nil, nil) {
			s, a, b := slices.Clone(c[0]), slices.Clone(c[1]), slices.Clone(c[2])
			got, e := calls(s, a, b)[what]()
			want := slices.Clone(got)
			clear(s)
			clear(a)
			clear(b)
			for _, other := range calls(c[0], c[1], c[2]) {
				list, _ := other()
				clear(list)
			}
			if !slices.Equal(got, want) {
				t.Errorf("%s of %v: %v, error %d; want %v", what, c, got, e, want)
			}
		}
	}
}

// Rule 5: lists of one memory are no matter.
func TestOneMemory(t *testing.T) {
	one := []int{1, 0, 0, 1}
	before := slices.Clone(one)
	checkPattern(t, one, one[1:3])
	checkDraws(t, one[:2], one[1:2], one[2:3])
	checkDraws(t, one, []int{0, 3}, one[1:3])
	checkDraws(t, []int{2, 2}, one, []int{1, 0, 1, 0})
	checkWeave(t, one, [][]int{one[:2], one[1:3]})
	checkWeave(t, one, [][]int{one[:2], one[:2]})
	if !slices.Equal(one, before) {
		t.Errorf("what was handed in has changed: %v; want %v", one, before)
	}
}

// Rules 1 and 4: nil and empty are the same.
func TestNilIsEmpty(t *testing.T) {
	empties := [][]int{nil, {}, []int{3, 4}[1:1]}
	for _, a := range empties {
		for _, b := range empties {
			for _, s := range [][]int{{0}, {0, 0, 0}, times(64, 0)} {
				if got := pattern(s, a); !got.same(telling{}) {
					t.Errorf("Pattern(%s, nothing) = %v", brief(s), got)
				}
				if got := draws(s, a, b); !got.same(answer{}) {
					t.Errorf("Draws(%s, nothing, nothing) = %v", brief(s), got)
				}
			}
			if got := pattern(a, b); !got.same(untold) {
				t.Errorf("Pattern of no sizes: %v; want error 2", got)
			}
			for _, c := range empties {
				if got := draws(a, b, c); !got.same(refused) {
					t.Errorf("Draws of no sizes: %v; want error 2", got)
				}
			}
			for _, chunks := range [][][]int{nil, {}, {a}, {a, b}, times(100, a)} {
				if l, e := braid.Weave(b, chunks); len(l) > 0 || e != api.OK {
					t.Errorf("Weave of nothing from %d empty chunks: %v, error %d", len(chunks), l, e)
				}
			}
		}
	}
}

// Rule 6: what is answered hangs on no call ahead of it; and many calls at one time answer what each would alone.
func TestManyAtOneTime(t *testing.T) {
	k := known[5]
	chunks := cut([]byte("abcdefghijklmno"), k.sizes)
	var group sync.WaitGroup
	for caller := range 16 {
		group.Add(1)
		go func() {
			defer group.Done()
			for range 50 {
				checkBothWays(t, k.sizes, k.draws)
				checkPattern(t, k.sizes, times(caller, 0))
				checkDraws(t, k.sizes, k.chunk, k.otherOff)
				checkWeave(t, k.chunk, chunks)
				if got, want := sizes(caller*20, caller), definedSizes(caller*20, caller); !got.same(want) {
					t.Errorf("Sizes(%d, %d) = %v; want %v", caller*20, caller, got, want)
				}
			}
		}()
	}
	group.Wait()
}

func ExampleSizes() {
	s, e := braid.Sizes(7, 3)
	fmt.Println(s, int(e))
	fmt.Println(braid.Bounds(3))
	_, e = braid.Sizes(257, 1)
	fmt.Println(e == api.ErrArg)
	// Output:
	// [3 2 2] 0
	// [3 2 1]
	// true
}
