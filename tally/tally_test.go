package tally_test

import (
	"encoding/hex"
	"fmt"
	"math"
	"slices"
	"sync"
	"testing"

	"churn/api"
	"churn/tally"
)

// P14.1: the chapter's examples.
func TestExamples(t *testing.T) {
	refused, long := told{Err: api.ErrArg}, told{Err: api.ErrLong}
	for _, c := range []struct {
		what      string
		got, want told
	}{
		{"All(0)", all(0), told{Bytes: []byte{1}}},
		{"All(2)", all(2), told{Bytes: []byte{1, 0, 0}}},
		{"Good(none, 0)", good(nil, 0), small(1)},
		{"Good(2, 0)", good([]int{2}, 0), told{}},
		{"Good(2, 1)", good([]int{2}, 1), small(256)},
		{"Good(3, 1)", good([]int{3}, 1), small(255)},
		{"Good(3, 2)", good([]int{3}, 2), small(65535)},
		{"Good(1 1, 0)", good([]int{1, 1}, 0), small(1)},
		{"Each(3, 1)", each([]int{3}, 1), small(85)},
		{"Each(3, 2)", each([]int{3}, 2), small(21845)},
		{"Bound(0, 5)", bound(0, 5), told{}},
		{"Bound(1, 1)", bound(1, 1), small(127)},
		{"Bound(1, 2)", bound(1, 2), small(16129)},
		{"Bound(2, 1)", bound(2, 1), small(256)},
		{"Good(129, 1)", good([]int{129}, 1), small(129)},
		{"Good(0, 1)", good([]int{0}, 1), refused},
		{"Good(257, 1)", good([]int{257}, 1), refused},
		{"Good(2, 65)", good([]int{2}, 65), long},
		{"Good(2, -1)", good([]int{2}, -1), refused},
	} {
		if !c.got.same(c.want) {
			t.Errorf("%s = %v; want %v", c.what, c.got, c.want)
		}
	}
}

// P14.1: the errors' numbers, as the document tells them.
func TestNumbersOfErrors(t *testing.T) {
	for _, c := range []struct {
		what string
		got  told
		want int
	}{
		{"All(-1)", all(-1), 2}, {"All(65)", all(65), 1}, {"All(64)", all(64), 0},
		{"Good of -1 bytes", good(nil, -1), 2}, {"Good of 65 bytes", good(nil, 65), 1}, {"Good of 64 bytes", good(nil, 64), 0},
		{"Good below 0", good([]int{0}, 1), 2}, {"Good of 65 bounds", good(times(65, 1), 1), 1},
		{"Each of -1 bytes", each(nil, -1), 2}, {"Each of 65 bytes", each(nil, 65), 1}, {"Each of 64 bytes", each(nil, 64), 0},
		{"Each below 0", each([]int{0}, 1), 2}, {"Each of 65 bounds", each(times(65, 1), 1), 1},
		{"Bound(-1, 1)", bound(-1, 1), 2}, {"Bound(1, -1)", bound(1, -1), 2},
		{"Bound(65, 1)", bound(65, 1), 1}, {"Bound(1, 65)", bound(1, 65), 1}, {"Bound(64, 64)", bound(64, 64), 0},
	} {
		if int(c.got.Err) != c.want {
			t.Errorf("%s: error %d; want %d", c.what, c.got.Err, c.want)
		}
	}
}

// knownCounts: what another program told of bounds and a length: Good and Each.
var knownCounts = []struct {
	bounds     []int
	length     int
	good, each string
}{
	{[]int{129}, 64,
		"ffffffffffffffff65085f6ed23428573fb493935daa7de9aa2d946bed6965c113ac45857e2b08e28de55d9ab58916d5533c702e3c211c2faf0f9ef556081fff",
		"01fc07f01fc07f01fad467eeffa51e1485748026d9094276e5894897a889bf4ce856ab34a1b8e44932b65dff36fd17fdaf47e90e3ff8519534f436d04a17e07f"},
	{[]int{3}, 64,
		"ffffffffffffffffffffffffffffffffffffffffffffffffffffffffffffffffffffffffffffffffffffffffffffffffffffffffffffffffffffffffffffffff",
		"55555555555555555555555555555555555555555555555555555555555555555555555555555555555555555555555555555555555555555555555555555555"},
	{[]int{255, 255}, 40,
		"ffffffffffffffffffffffffffffffffffffffffffffffffffffffffffffffffffffffffffffd827",
		"0102030405060708090a0b0c0d0e0f101112131415161718191a1b1c1d1e1f2021222324252627"},
	{times(32, 129), 64,
		"930bb6a401124b49b064534e577f2cd7b51a6015fc9c3823df94d1ea673ce5daa87e0bee12f1cc38ce745f3a02546694d7320afcf2abcd3ca815025cf9fc8123",
		"72a172ed7c67afb6cc6b8a5703c512fcbd9214de78cd1fbe6bb7ae3456b9a88703f65123"},
	{times(64, 129), 64,
		"01a540db81e090d21748349d2f13a6cbe82d448a21c58983732b99977d6be0eec9696c0b66a2c5fd506102b13cf91b702c5f35d53359f82001",
		"01"},
	{times(63, 129), 64,
		"69537ada3ba0fc18513d5754ecf7be3134ce8251f2a369ddcfc303d69b721fac441a5709601007cf1cd83f2ee17a672bb6e7fea5cef3d05fc1",
		"2041"},
	{[]int{200, 150, 100, 77, 60, 51, 43, 37, 3}, 20,
		"fff5890acdf64ebd57532da8345559108ae6c000",
		"155ab4203da31bf44c40533d6d40"},
	{[]int{20, 19, 18, 17, 16, 15, 14, 13, 12, 11, 10, 9, 8, 7, 6, 5, 4, 3, 2, 1}, 30,
		"ffffffffffc5acd5db87257e7f77b2e553a6855bc5c85f58000000000000",
		"07950ae9007ecf06df96b84e66bf20d02473ee00000000"},
	{[]int{55, 127, 139, 131, 150, 38, 231, 156, 239, 204, 202, 61, 135, 115, 162, 184, 134, 185, 77, 83, 141, 85, 6, 36, 63, 173, 15, 43, 141, 105, 196, 207, 225, 49, 58, 187, 93, 49, 250, 100, 139, 232, 112, 249, 145, 131, 53, 63, 46, 143, 144, 61, 15, 83, 211, 59, 48, 218, 246, 87, 198, 234, 159, 249}, 64,
		"04deee25ee8188852b50a329868d83fce01b59a595533216c67d8f9bcb2ad53de3279b3b251f792ca49bc35d86f0f3469e20900d79540000000000000000",
		"0f05c12ffa000000"},
	{[]int{246, 240, 235, 153, 194, 250, 229, 189, 244, 254, 146, 165, 254, 197, 241, 133, 232, 237, 134, 217}, 64,
		"ffffffffe2f18d6667e7fd00e5235942c329afdff2b393cd3660e9bddebef6d3b14c2bd93514992d08bbc255a2539a1de29dbd3a5b60a174d7bffb7296960000",
		"55ab51eccd8ddaa42c63e661105e7838bbe9350259da6d9e2c6f56c31bd61004ed2302436683e2a09e800714c6"},
	{[]int{1, 86, 1, 171, 1, 2, 1, 255}, 9,
		"fe53bc8dd8029fe800",
		"0238ea60473600"},
	{[]int{183, 147, 96, 122, 69, 93, 79, 137, 50, 12, 162, 145, 122, 67, 26, 101, 27, 10, 51, 81, 8, 2, 152, 131, 74, 135, 93, 66, 31, 10, 39, 200, 52, 2, 60, 66, 130, 69, 48, 65, 55, 156, 176, 86, 76, 186, 196, 96}, 57,
		"28abd4d3e5b649768ff02f460e1c7630fce7b941c5c63ee759515ef611dd0a87939ba824da2a03986b3efc62c6e00000000000000000000000",
		"91aa085d13e873070a9fc70c7a0ece748000000000"},
}

// knownBounds: what another program told of draws and a length.
var knownBounds = []struct {
	draws, length int
	bound         string
}{
	{1, 64, "9af7a0912dcbd7a8c04b6c6ca255821655d26b9412969a3eec53ba7a81d4f71d721aa2654a76e92aacc38fd1c3dee3d050f0610aa9f7e001"},
	{2, 64, "27f50fc56ef3327af3c95e63ba23e3e57dc433481bd105548e15bf0cfd3d74790c900c7086d078abf0c0302556a74e2855c05fb2de23df9fc1"},
	{16, 64, "9b74fadba6dbe129f742657331a1755afca3fa4d270732a8d20cf488199ff484821e186fc40e647eb6224e37ea81c2719dcdb77236f92d35aab076481039"},
	{32, 64, "6cf4495bfeedb4b64f9bacb1a880d3284ae59fea0363c7dc206b2e1598c31a255781f411ed0e33c7318ba0c5fdab996b28cdf5030d5432c357eafda306037edd"},
	{33, 64, "86565efd44c7c79daf95dbec89303248971698542e5a45fc434dd1e179297fd6ea0cf2ee5716e627fdbbeca8bdfedfe0f61f53236d8ba92187ee508d4383c123"},
	{64, 64, "fffffffffffffffe5abf247e1f6f2de8b7cb62d0ec593417d2bb75de3a767c8cd4666882941f11369693f4995d3a02af9efd4ec306e48fd3a0ca2acca607dfff"},
	{64, 63, "01000000000000000000000000000000000000000000000000000000000000000000000000000000000000000000000000000000000000000000000000000000"},
	{20, 41, "5bd058ec7e8bc09397a6a3c2d3019c46cf89547b1353cb43fd8e6d7978011055d9a266d86079db11d0"},
	{5, 20, "015efc73a8cc32639fa53a67ac084e29ac266724"},
	{3, 7, "385f4a22e55171"},
}

func unhex(t *testing.T, text string) told {
	t.Helper()
	b, err := hex.DecodeString(text)
	if err != nil {
		t.Fatal(err)
	}
	return told{Bytes: b}
}

// P14.1: what another program told.
func TestKnown(t *testing.T) {
	for _, k := range knownCounts {
		if got := good(k.bounds, k.length); !got.same(unhex(t, k.good)) {
			t.Errorf("Good(%v, %d) = %v; want %s", k.bounds, k.length, got, k.good)
		}
		if got := each(k.bounds, k.length); !got.same(unhex(t, k.each)) {
			t.Errorf("Each(%v, %d) = %v; want %s", k.bounds, k.length, got, k.each)
		}
	}
	for _, k := range knownBounds {
		if got := bound(k.draws, k.length); !got.same(unhex(t, k.bound)) {
			t.Errorf("Bound(%d, %d) = %v; want %s", k.draws, k.length, got, k.bound)
		}
	}
}

// P14.1: lengths outside the range, near and far, whatever the bounds that are in theirs.
func TestLengthsOutside(t *testing.T) {
	lists := [][]int{nil, {1}, {2}, {3}, {256}, {129, 129}, times(64, 1), times(64, 200)}
	for e, lengths := range map[api.Errno][]int{api.ErrArg: tooSmall, api.ErrLong: tooGreat} {
		want := told{Err: e}
		for _, length := range lengths {
			if got := all(length); !got.same(want) {
				t.Errorf("All(%d) = %v; want %v", length, got, want)
			}
			for _, bounds := range lists {
				if got := good(bounds, length); !got.same(want) {
					t.Errorf("Good(%v, %d) = %v; want %v", bounds, length, got, want)
				}
				if got := each(bounds, length); !got.same(want) {
					t.Errorf("Each(%v, %d) = %v; want %v", bounds, length, got, want)
				}
			}
			for _, in := range []int{0, 1, 2, 63, 64} {
				if got := bound(in, length); !got.same(want) {
					t.Errorf("Bound(%d, %d) = %v; want %v", in, length, got, want)
				}
				if got := bound(length, in); !got.same(want) {
					t.Errorf("Bound(%d, %d) = %v; want %v", length, in, got, want)
				}
			}
		}
	}
}

// P14.1: a bound that is none, wherever it stands and whatever stands beside it, for every length that is counted.
func TestNoBounds(t *testing.T) {
	want := told{Err: api.ErrArg}
	for _, n := range []int{1, 2, 3, 8, 64} {
		for at := range n {
			for _, bad := range noBounds {
				for _, length := range []int{0, 1, 64} {
					bounds := with(times(n, 7), at, bad)
					if got := good(bounds, length); !got.same(want) {
						t.Errorf("Good(%v, %d) = %v; want %v", bounds, length, got, want)
					}
					if got := each(bounds, length); !got.same(want) {
						t.Errorf("Each(%v, %d) = %v; want %v", bounds, length, got, want)
					}
				}
			}
		}
	}
}

// P14.1: MaxTally bounds are taken, one more is refused, of whatever kind they are; far more too.
func TestMostBounds(t *testing.T) {
	for _, b := range []int{1, 2, 3, 128, 129, 255, 256} {
		for _, length := range []int{0, 1, 63, 64} {
			checkCounts(t, times(63, b), length)
			checkCounts(t, times(64, b), length)
			for _, n := range []int{65, 66, 128, 256, 257, 1000, 65536, 65537} {
				want := told{Err: api.ErrLong}
				if got := good(times(n, b), length); !got.same(want) {
					t.Errorf("Good(%d times %d, %d) = %v; want %v", n, b, length, got, want)
				}
				if got := each(times(n, b), length); !got.same(want) {
					t.Errorf("Each(%d times %d, %d) = %v; want %v", n, b, length, got, want)
				}
			}
		}
	}
}

// P14.1: the errors' order of Good and Each: a length below 0, then what is too long, then a bound that is none.
func TestOrderOfErrors(t *testing.T) {
	bad, tooMany := []int{2, 0}, times(65, 2)
	badOfTooMany := with(tooMany, 64, 257)
	for _, c := range []struct {
		bounds []int
		length int
		want   api.Errno
	}{
		{bad, -1, api.ErrArg}, {tooMany, -1, api.ErrArg}, {badOfTooMany, -1, api.ErrArg}, {tooMany, math.MinInt, api.ErrArg},
		{bad, 65, api.ErrLong}, {tooMany, 65, api.ErrLong}, {badOfTooMany, 65, api.ErrLong}, {bad, math.MaxInt, api.ErrLong},
		{tooMany, 64, api.ErrLong}, {badOfTooMany, 64, api.ErrLong}, {badOfTooMany, 0, api.ErrLong}, {times(65, 0), 1, api.ErrLong},
		{bad, 64, api.ErrArg}, {bad, 0, api.ErrArg}, {times(64, 0), 64, api.ErrArg},
	} {
		want := told{Err: c.want}
		if got := good(c.bounds, c.length); !got.same(want) {
			t.Errorf("Good(%v, %d) = %v; want %v", c.bounds, c.length, got, want)
		}
		if got := each(c.bounds, c.length); !got.same(want) {
			t.Errorf("Each(%v, %d) = %v; want %v", c.bounds, c.length, got, want)
		}
	}
}

// P14.1: the errors' order of Bound: one below 0, whichever it is, ahead of one that is too great.
func TestOrderOfErrorsOfBound(t *testing.T) {
	want := told{Err: api.ErrArg}
	for _, below := range tooSmall {
		for _, other := range slices.Concat(tooSmall, []int{0, 1, 64}, tooGreat) {
			if got := bound(below, other); !got.same(want) {
				t.Errorf("Bound(%d, %d) = %v; want %v", below, other, got, want)
			}
			if got := bound(other, below); !got.same(want) {
				t.Errorf("Bound(%d, %d) = %v; want %v", other, below, got, want)
			}
		}
	}
	want = told{Err: api.ErrLong}
	for _, above := range tooGreat {
		for _, other := range slices.Concat([]int{0, 1, 64}, tooGreat) {
			if got := bound(above, other); !got.same(want) {
				t.Errorf("Bound(%d, %d) = %v; want %v", above, other, got, want)
			}
			if got := bound(other, above); !got.same(want) {
				t.Errorf("Bound(%d, %d) = %v; want %v", other, above, got, want)
			}
		}
	}
}

// Rule 4: nil and empty are the same: each tape is good, and gives the one list without draws.
func TestNilIsEmpty(t *testing.T) {
	for _, empty := range [][]int{nil, {}, []int{0, 300}[1:1]} {
		for length := range 65 {
			if got := good(empty, length); !got.same(all(length)) {
				t.Errorf("Good(nothing, %d) = %v", length, got)
			}
			if got := each(empty, length); !got.same(all(length)) {
				t.Errorf("Each(nothing, %d) = %v", length, got)
			}
		}
	}
}

// A given is what one call of Good or Each is handed.
type given struct {
	bounds []int
	length int
}

// givens: good arguments and bad ones.
func givens() []given {
	return []given{
		{nil, 0}, {nil, 64}, {[]int{1}, 0}, {[]int{2}, 0}, {[]int{2}, 1}, {[]int{3, 1, 256}, 5}, {[]int{200, 100, 3}, 64}, {[]int{3, 200, 1, 100}, 33},
		{times(64, 129), 64}, {times(64, 1), 64}, {times(65, 1), 64}, {[]int{2, 0}, 3}, {[]int{257}, 3}, {[]int{9, 8, 7}, 65}, {[]int{9, 8, 7}, -1},
	}
}

// Rule 5: the bounds stay as they are, and what lies ahead of them and in their spare room too; answers are memory of their own.
func TestMemory(t *testing.T) {
	for _, g := range givens() {
		around := join(times(5, 77), g.bounds, times(80, 78))
		before := slices.Clone(around)
		bounds := around[5 : 5+len(g.bounds)]
		what := fmt.Sprintf("(%v, %d)", g.bounds, g.length)
		checkOwn(t, "Good"+what, func() told { return good(bounds, g.length) })
		checkOwn(t, "Each"+what, func() told { return each(bounds, g.length) })
		if !slices.Equal(around, before) {
			t.Errorf("%s: the bounds have become %v", what, around)
		}
	}
	for _, n := range []int{-1, 0, 1, 2, 7, 63, 64, 65} {
		checkOwn(t, fmt.Sprint("All of ", n), func() told { return all(n) })
		for _, draws := range []int{-1, 0, 1, 2, 7, 63, 64, 65} {
			checkOwn(t, fmt.Sprint("Bound of ", draws, n), func() told { return bound(draws, n) })
		}
	}
}

// checkOwn: two answers of one call share nothing, and neither does a third one with what was written into the first.
func checkOwn(t *testing.T, what string, call func() told) {
	t.Helper()
	first := call()
	want := told{slices.Clone(first.Bytes), first.Err}
	second := call()
	grown := append(first.Bytes, 9, 9, 9)
	for _, l := range [][]byte{first.Bytes[:cap(first.Bytes)], grown} {
		for i := range l {
			l[i] = ^l[i]
		}
	}
	if !second.same(want) {
		t.Errorf("%s: %v beside a changed answer; want %v", what, second, want)
	}
	if third := call(); !third.same(want) {
		t.Errorf("%s: %v behind a changed answer; want %v", what, third, want)
	}
}

// Rule 5: an answer is not changed by what becomes of the bounds, nor is the next one.
func TestAnswersStay(t *testing.T) {
	for _, g := range givens() {
		bounds := slices.Clone(g.bounds)
		a, b := good(bounds, g.length), each(bounds, g.length)
		for i := range bounds {
			bounds[i] = 2
		}
		if !a.same(definedGood(g.bounds, g.length)) || !b.same(definedEach(g.bounds, g.length)) {
			t.Errorf("(%v, %d): an answer has changed: %v, %v", g.bounds, g.length, a, b)
		}
		checkCounts(t, bounds, g.length)
	}
}

// Rule 6: what is answered hangs on no call ahead of it; and many calls at one time, of the same bounds too, answer what each would alone.
func TestManyAtOneTime(t *testing.T) {
	list := givens()
	var group sync.WaitGroup
	for caller := range 16 {
		group.Add(1)
		go func() {
			defer group.Done()
			for i := range 2 * len(list) {
				g := list[(caller+i)%len(list)]
				checkCounts(t, g.bounds, g.length)
				checkBound(t, caller, i)
				checkAll(t, 4*caller)
			}
		}()
	}
	group.Wait()
}

func ExampleAll() {
	n, e := tally.All(2)
	fmt.Println(n, int(e))
	_, e = tally.All(65)
	fmt.Println(e == api.ErrLong)
	// Output:
	// [1 0 0] 0
	// true
}

func ExampleGood() {
	n, e := tally.Good([]int{3}, 2)
	fmt.Println(n, int(e))
	n, e = tally.Good([]int{2}, 0)
	fmt.Println(len(n), int(e))
	// Output:
	// [255 255] 0
	// 0 0
}

func ExampleEach() {
	n, e := tally.Each([]int{3}, 2)
	fmt.Println(n, int(e))
	// Output: [85 85] 0
}

func ExampleBound() {
	n, e := tally.Bound(1, 2)
	fmt.Println(n, int(e))
	// Output: [63 1] 0
}
