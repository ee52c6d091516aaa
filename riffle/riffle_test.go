package riffle_test

import (
	"bytes"
	"encoding/hex"
	"fmt"
	"math"
	"math/rand"
	"slices"
	"sync"
	"testing"

	"churn/api"
	"churn/riffle"
)

// counted: the tape of the chapter's examples: 18 noughts, and then 1 to 24.
func counted() []byte {
	p := make([]byte, 42)
	for i := range 24 {
		p[18+i] = byte(i + 1)
	}
	return p
}

// P13.1: the chapter's examples.
func TestExamples(t *testing.T) {
	p := counted()
	refused := ordering{Err: api.ErrArg}
	for _, c := range []struct {
		p         []byte
		n, chunks int
		want      ordering
	}{
		{p, 0, 1, ordering{}},
		{p, 1, 5, ordering{List: []int{0}}},
		{p, 3, 1, ordering{List: []int{2, 0, 1}}},
		{p, 4, 2, ordering{List: []int{0, 2, 3, 1}}},
		{p[:17], 0, 1, ordering{Err: api.ErrTape}},
		{p[:18], 1, 1, ordering{List: []int{0}}},
		{p[:18], 2, 1, ordering{Err: api.ErrTape}},
		{p, 257, 1, refused},
		{p, 3, 0, refused},
		{p, 3, 65, refused},
	} {
		if got := order(c.p, c.n, c.chunks); !got.same(c.want) {
			t.Errorf("Order(%d bytes, %d, %d) = %v; want %v", len(c.p), c.n, c.chunks, got, c.want)
		}
	}
	if l, e := riffle.Shuffle(p, 2, []string{"a", "b", "c", "d"}); !slices.Equal(l, []string{"a", "c", "d", "b"}) || e != api.OK {
		t.Errorf("Shuffle(p, 2, a b c d) = %v, error %d", l, e)
	}
}

// P13.1: the errors' numbers, as the document tells them.
func TestNumbersOfErrors(t *testing.T) {
	p := counted()
	_, shuffled := riffle.Shuffle(p, 0, []int{1})
	_, short := riffle.Shuffle(p[:17], 1, []int{1})
	_, fine := riffle.Shuffle(p, 1, []int{1})
	for _, c := range []struct {
		what string
		e    api.Errno
		want int
	}{
		{"Order of -1", order(p, -1, 1).Err, 2},
		{"Order of no tape", order(nil, 0, 1).Err, 3},
		{"Order", order(p, 1, 1).Err, 0},
		{"Shuffle in no chunks", shuffled, 2},
		{"Shuffle by a short tape", short, 3},
		{"Shuffle", fine, 0},
		{"Turn of -1", turn(p, -1, 1, nil).Err, 2},
		{"Turn to too few", turn(p, 1, 1, nil).Err, 2},
		{"Turn to no permutation", turn(p, 1, 1, []int{1}).Err, 110},
		{"Turn of no tape", turn(nil, 1, 1, []int{0}).Err, 3},
		{"Turn", turn(p, 1, 1, []int{0}).Err, 0},
	} {
		if int(c.e) != c.want {
			t.Errorf("%s: error %d; want %d", c.what, c.e, c.want)
		}
	}
}

// known: tapes, the orders that they give, others that are wanted and the tapes that give those: all told by another program.
var known = []struct {
	tape      string
	n, chunks int
	own, want []int
	turned    string
}{
	{"c67e816b4bfbe2fb54f6bddf7c1ce18701bf31de56720f4767668759aa883c59ea56137bd285a1d83c54",
		4, 2, []int{1, 0, 3, 2}, []int{3, 0, 1, 2},
		"c67e816b4bfbe2fb54f6bddf7c1ce18701bf32df56720f4767668759aa883d59ea56137bd285a1d83c54"},
	{"8c21ff72edd718d94e139513dc1b63fc9306f6bf9ce506e06db00a059ff275878e34b3bcb32be202c0a1518c8023b9ec6d6f3d640e9c23ec17075003",
		5, 1, []int{3, 1, 4, 0, 2}, []int{3, 2, 0, 4, 1},
		"8c21ff72edd718d94e139513dc1b63fc9306f6bf9ce506e06db00a059ff275878e34b3bcb32be201c19f508c8023b9ec6d6f3d640e9c23ec17075003"},
	{"53c37d788eb44db7482f6d463d19e570244cbba0e358fc7874fa8cb1955cafb5321253fe93d1232c45ed4ce9c9990d7dffdc013051552c63a0b0c76dee",
		7, 3, []int{5, 3, 0, 1, 2, 4, 6}, []int{5, 3, 2, 6, 4, 0, 1},
		"53c37d788eb44db7482f6d463d19e570244cbba0e35bfe7874fa8cb1955cafb5321253fe93d1232b44ed4ce9c9990d7dffdc013051552c63a0b0c76dee"},
	{"1966fb7f2f908295424b45799d1767e5b593808129caf3107a430f5d8ac7e8e3d6f0f33f73766456ca394846130e610e924ac5fc940f35da28593ed79ec71237",
		6, 64, []int{2, 5, 1, 3, 4, 0}, []int{4, 5, 2, 1, 3, 0},
		"1966fb7f2f908295424b45799d1767e5b59382812acaf3107a430f5d8ac7e8e3d6f0f33f73766456ca394846130e610e924ac5fc940f35da28593ed79ec71237"},
	{"df097885d16cb8733c681dacfd15e95946d944626f3deaa9808d92097f3122117ace9480531ca6804e8644a35c83b69e25b789c8d7c83f50b101b6414ea95837b22108df16c0",
		9, 4, []int{5, 0, 8, 1, 7, 3, 6, 4, 2}, []int{5, 1, 6, 8, 3, 7, 0, 2, 4},
		"df097885d16cb8733c681dacfd15e95946d944626d41e8ab7f8c92097f3122117ace9480531ca6804e8644a35c82b69e25b789c8d7c83f50b101b6414ea95837b22108df16c0"},
	{"a6abf68c7249ed513784f5df5e146bced8200943b6b0e04187d615b5759c5b3f1eac34c233c2e7aad3d24000a5f80a2fb7244d941a8148c739aa2dabfd8c9f38a319ec0358b20a929a5153624d7a00b4",
		12, 5, []int{8, 2, 3, 7, 1, 5, 9, 10, 4, 6, 11, 0}, []int{1, 0, 4, 9, 10, 2, 11, 6, 8, 7, 3, 5},
		"a6abf68c7249ed513784f5df5e146bced8200142b5b1e73f89d517b6759c5b3f1eac34c233c2e7aad3d24000a5f80a2fb7264c941a8148c838aa2dabfd8d9f38a319ec0258b20a929a5153624d7a00b4"},
	{"6c4e74921325222e31a1cd13be12ed426966ce24fc23d7da8d2097616a06956ec28ad403136828d4571e3c5dee6e5ec04a91115f5d3b513ec253a416ad6ee5389411d0289aa34cf5c0347c59caf08495f3611b0b5068d59804f9",
		16, 1, []int{7, 9, 15, 6, 11, 4, 10, 13, 14, 3, 0, 8, 5, 12, 2, 1}, []int{14, 0, 15, 1, 6, 5, 3, 2, 8, 7, 4, 10, 12, 9, 13, 11},
		"6c4e74921325222e31a1cd13be12ed426966ce24fc23d7da8d2097616a06956ec28ad403136828d4571e3c5dee6e5ec04a91115f5d3b5b49bf5aa61ab174e23b9512d1289aa34cf5c0347c59caf08495f3611b0b5068d59804f9"},
	{"32f0f299b401570c2bbda5461f106fb7faad93054295cd7294691a0d5f71ce9c66687444f40d69fedc6b37ba37e3b350ddfed52b9ff45ab44bfb1b805d512b388508b44cdd958f57e616a4514867077746e3cffa02fab669767772e02e8ed6eec7a9a747",
		20, 3, []int{9, 0, 14, 19, 17, 10, 7, 4, 6, 5, 8, 12, 15, 1, 3, 16, 2, 18, 11, 13}, []int{10, 18, 0, 12, 19, 1, 15, 3, 14, 2, 6, 13, 9, 4, 7, 17, 8, 11, 16, 5},
		"32f0f299b401570c2bbda5461f106fb7faad930d3b91cc6a976a220d5c70cc9a69687543f50d69fedc6b37ba37e3b350ddfed52b9ff45ab44bfb1b835e542a388508b44cdd958f57e413a0524867077746e3cffa02f8b768767772e02e8ed6eec7a9a747"},
}

func unhex(t *testing.T, text string) []byte {
	t.Helper()
	p, err := hex.DecodeString(text)
	if err != nil {
		t.Fatal(err)
	}
	return p
}

// P13.1, P13.2: what another program told.
func TestKnown(t *testing.T) {
	for _, k := range known {
		p, q := unhex(t, k.tape), unhex(t, k.turned)
		if got := order(p, k.n, k.chunks); !got.same(ordering{List: k.own}) {
			t.Errorf("Order(%s, %d, %d) = %v; want %v", k.tape, k.n, k.chunks, got, k.own)
		}
		if got := order(q, k.n, k.chunks); !got.same(ordering{List: k.want}) {
			t.Errorf("Order(%s, %d, %d) = %v; want %v", k.turned, k.n, k.chunks, got, k.want)
		}
		if got := turn(p, k.n, k.chunks, k.want); !got.same(turning{Tape: q}) {
			t.Errorf("Turn(%s, %d, %d, %v) = %v; want %s", k.tape, k.n, k.chunks, k.want, got, k.turned)
		}
		if got := turn(q, k.n, k.chunks, k.own); !got.same(turning{Tape: p}) {
			t.Errorf("Turn(%s, %d, %d, %v) = %v; want %s", k.turned, k.n, k.chunks, k.own, got, k.tape)
		}
		letters := []byte("abcdefghijklmnopqrst")[:k.n]
		got, e := riffle.Shuffle(p, k.chunks, letters)
		for i, v := range got {
			if v != letters[k.own[i]] {
				t.Errorf("Shuffle(%s, %d, %s) = %s, error %d", k.tape, k.chunks, letters, got, e)
			}
		}
		if len(got) != k.n || e != api.OK {
			t.Errorf("Shuffle(%s, %d, %s) = %s, error %d", k.tape, k.chunks, letters, got, e)
		}
	}
}

// P13.1: numbers of things and of chunks at the ends of their ranges, just outside and far outside, whatever the tape.
func TestEndsOfTheArguments(t *testing.T) {
	tapes := [][]byte{nil, times(17, byte(0)), times(18, byte(0)), some(40, 1), some(600, 2), some(3000, 3), times(3000, byte(255))}
	for _, n := range append([]int{0, 1, 2, 3, 63, 64, 65, 66, 255, 256, 257}, far...) {
		for _, chunks := range append([]int{0, 1, 2, 3, 63, 64, 65, 66, 255, 256}, far...) {
			for _, p := range tapes {
				got := checkOrder(t, p, n, chunks)
				if (n < 0 || n > 256 || chunks < 1 || chunks > 64) != (got.Err == api.ErrArg) {
					t.Errorf("Order(%d bytes, %d, %d) = %v", len(p), n, chunks, got)
				}
				for _, want := range [][]int{nil, {0}, {1, 0}, {0, 0}, upTo(64), upTo(256), upTo(257)} {
					checkTurn(t, p, n, chunks, want)
				}
				if n >= 0 && n < 600 {
					checkShuffle(t, p, n, chunks)
					checkTurn(t, p, n, chunks, upTo(n))
				}
			}
		}
	}
	for _, c := range [][2]int{{-1, 1}, {257, 1}, {0, 0}, {0, -1}, {0, 65}, {256, 65}, {256, 0}, {-1, 0}, {math.MinInt, math.MinInt}, {math.MaxInt, math.MaxInt}, {1, 1<<32 + 1}, {1<<32 + 1, 1}} {
		if got := order(some(3000, 4), c[0], c[1]); !got.same(ordering{Err: api.ErrArg}) {
			t.Errorf("Order(.., %d, %d) = %v; want error 2", c[0], c[1], got)
		}
		if got := turn(some(3000, 4), c[0], c[1], nil); !got.same(turning{Err: api.ErrArg}) {
			t.Errorf("Turn(.., %d, %d, nothing) = %v; want error 2", c[0], c[1], got)
		}
	}
}

// P13.1: the errors' order: a bad n or a bad number of chunks, then a want of another length, then one that is no permutation, then the tape.
func TestOrderOfErrors(t *testing.T) {
	short := [][]byte{nil, times(17, byte(0)), times(18, byte(0)), times(500, byte(255))}
	for _, p := range append(short, some(3000, 5)) {
		for _, n := range []int{-1, 257, math.MinInt, math.MaxInt} {
			for _, want := range [][]int{nil, {0}, {5}, {0, 0}, upTo(257), times(257, 0)} {
				if got := turn(p, n, 1, want); !got.same(turning{Err: api.ErrArg}) {
					t.Errorf("Turn(%d bytes, %d, 1, %s) = %v; want error 2", len(p), n, brief(want), got)
				}
			}
			if got := order(p, n, 1); !got.same(ordering{Err: api.ErrArg}) {
				t.Errorf("Order(%d bytes, %d, 1) = %v; want error 2", len(p), n, got)
			}
		}
		for _, chunks := range []int{-1, 0, 65, math.MinInt, math.MaxInt} {
			for _, want := range [][]int{nil, {1, 0}, {0, 0}, {2, 0}, {0, 1, 2}} {
				if got := turn(p, 2, chunks, want); !got.same(turning{Err: api.ErrArg}) {
					t.Errorf("Turn(%d bytes, 2, %d, %v) = %v; want error 2", len(p), chunks, want, got)
				}
			}
			if got := order(p, 2, chunks); !got.same(ordering{Err: api.ErrArg}) {
				t.Errorf("Order(%d bytes, 2, %d) = %v; want error 2", len(p), chunks, got)
			}
			if l, e := riffle.Shuffle(p, chunks, []string{"a", "b"}); len(l) > 0 || e != api.ErrArg {
				t.Errorf("Shuffle(%d bytes, %d, a b) = %v, error %d; want error 2", len(p), chunks, l, e)
			}
		}
		if l, e := riffle.Shuffle(p, 1, times(257, "a")); len(l) > 0 || e != api.ErrArg {
			t.Errorf("Shuffle(%d bytes, 1, 257 things) = %s, error %d; want error 2", len(p), brief(l), e)
		}
		for _, want := range [][]int{nil, {0}, {0, 1}, {0, 0}, {0, 1, 2, 3}, {7, 7, 7, 7}, {0, 1, 2, 2}, upTo(256)} {
			if got := turn(p, 3, 1, want); !got.same(turning{Err: api.ErrArg}) {
				t.Errorf("Turn(%d bytes, 3, 1, %s) = %v; want error 2", len(p), brief(want), got)
			}
		}
		for _, want := range [][]int{{0, 0, 0}, {0, 1, 1}, {1, 2, 3}, {-1, 0, 1}, {0, 1, 3}, {math.MinInt, 0, 1}, {0, math.MaxInt, 1}, {0, 1, 2 + 1<<32}} {
			if got := turn(p, 3, 1, want); !got.same(turning{Err: api.ErrPerm}) {
				t.Errorf("Turn(%d bytes, 3, 1, %v) = %v; want error 110", len(p), want, got)
			}
		}
	}
	for _, p := range short {
		if got := turn(p, 3, 1, []int{2, 1, 0}); !got.same(turning{Err: api.ErrTape}) {
			t.Errorf("Turn(%d bytes, 3, 1, 2 1 0) = %v; want error 3", len(p), got)
		}
	}
}

// P13.1: a want with one number put out of place, at each place, is no permutation; with one left out or one more it has another length.
func TestNoPermutation(t *testing.T) {
	r := rand.New(rand.NewSource(1301))
	for _, c := range [][2]int{{1, 1}, {2, 1}, {2, 2}, {5, 2}, {7, 3}, {16, 4}, {64, 64}, {100, 7}, {256, 1}, {256, 64}} {
		n, chunks := c[0], c[1]
		p, want := some(3000, int64(n)), r.Perm(n)
		checkThereAndBack(t, p, n, chunks, want)
		for i := range n {
			for _, v := range append([]int{n, n + 1, want[i] - n, want[i] + n, want[(i+1)%n]}, far...) {
				if v == want[i] {
					continue
				}
				if got := turn(p, n, chunks, with(want, i, v)); !got.same(turning{Err: api.ErrPerm}) {
					t.Errorf("Turn(.., %d, %d, with %d at %d) = %v; want error 110", n, chunks, v, i, got)
				}
			}
			if got := turn(p, n, chunks, slices.Delete(slices.Clone(want), i, i+1)); !got.same(turning{Err: api.ErrArg}) {
				t.Errorf("Turn(.., %d, %d, without %d) = %v; want error 2", n, chunks, i, got)
			}
			if got := turn(p, n, chunks, slices.Insert(slices.Clone(want), i, n)); !got.same(turning{Err: api.ErrArg}) {
				t.Errorf("Turn(.., %d, %d, one more at %d) = %v; want error 2", n, chunks, i, got)
			}
		}
	}
}

// P13.1: things of other types, and things that are pointers or lists: they are handed on as they are.
func TestThingsOfOtherTypes(t *testing.T) {
	p := counted()
	inner := [][]byte{{1}, nil, {3}, {}}
	got, e := riffle.Shuffle(p, 2, inner)
	if e != api.OK || &got[0][0] != &inner[0][0] || &got[1][0] != &inner[2][0] || got[2] == nil || len(got[2]) > 0 || got[3] != nil {
		t.Errorf("Shuffle of lists: %v, error %d", got, e)
	}
	type pair struct {
		a string
		b *int
	}
	number := new(int)
	pairs := []pair{{"a", number}, {"b", nil}, {"c", number}, {"d", nil}}
	if got, e := riffle.Shuffle(p, 2, pairs); e != api.OK || !slices.Equal(got, []pair{{"a", number}, {"c", number}, {"d", nil}, {"b", nil}}) {
		t.Errorf("Shuffle of structs: %v, error %d", got, e)
	}
	anything := []any{nil, 2, "three", 4.5}
	if got, e := riffle.Shuffle(p, 2, anything); e != api.OK || !slices.Equal(got, []any{nil, "three", 4.5, 2}) {
		t.Errorf("Shuffle of anything: %v, error %d", got, e)
	}
	arrays := [][2]uint8{{1, 2}, {3, 4}, {5, 6}}
	if got, e := riffle.Shuffle(p, 1, arrays); e != api.OK || !slices.Equal(got, [][2]uint8{{5, 6}, {1, 2}, {3, 4}}) {
		t.Errorf("Shuffle of arrays: %v, error %d", got, e)
	}
	if got, e := riffle.Shuffle(p, 1, []float64{math.NaN(), 1, 2}); e != api.OK || got[0] != 2 || !math.IsNaN(got[1]) || got[2] != 1 {
		t.Errorf("Shuffle of floats: %v, error %d", got, e)
	}
	calls := []func() int{func() int { return 0 }, func() int { return 1 }, nil}
	if got, e := riffle.Shuffle(p, 1, calls); e != api.OK || got[0] != nil || got[1]() != 0 || got[2]() != 1 {
		t.Errorf("Shuffle of functions: %d of them, error %d", len(got), e)
	}
	if got, e := riffle.Shuffle(some(3000, 6), 64, times(256, struct{}{})); len(got) != 256 || e != api.OK {
		t.Errorf("Shuffle of 256 things of no size: %d of them, error %d", len(got), e)
	}
	if got, e := riffle.Shuffle(p, 1, []string{"a", "a", "a"}); !slices.Equal(got, []string{"a", "a", "a"}) || e != api.OK {
		t.Errorf("Shuffle of equal things: %v, error %d", got, e)
	}
}

// Rules 1 and 4: nil and empty are the same.
func TestNilIsEmpty(t *testing.T) {
	for _, p := range [][]byte{nil, {}, []byte{1, 2}[1:1]} {
		for _, chunks := range []int{1, 2, 64} {
			for n := range 3 {
				if got := order(p, n, chunks); !got.same(ordering{Err: api.ErrTape}) {
					t.Errorf("Order(nothing, %d, %d) = %v; want error 3", n, chunks, got)
				}
				if got := turn(p, n, chunks, upTo(n)); !got.same(turning{Err: api.ErrTape}) {
					t.Errorf("Turn(nothing, %d, %d, ..) = %v; want error 3", n, chunks, got)
				}
			}
		}
	}
	p := counted()
	for _, empty := range [][]int{nil, {}, []int{3, 4}[1:1]} {
		for _, chunks := range []int{1, 2, 64} {
			for length := 18; length <= len(p); length++ {
				if l, e := riffle.Shuffle(p[:length], chunks, empty); len(l) > 0 || e != api.OK {
					t.Errorf("Shuffle(.., %d, nothing) = %v, error %d", chunks, l, e)
				}
				if got := turn(p[:length], 0, chunks, empty); !got.same(turning{Tape: p[:length]}) {
					t.Errorf("Turn(%x, 0, %d, nothing) = %v", p[:length], chunks, got)
				}
			}
			if l, e := riffle.Shuffle(p[:17], chunks, empty); len(l) > 0 || e != api.ErrTape {
				t.Errorf("Shuffle(17 bytes, %d, nothing) = %v, error %d; want error 3", chunks, l, e)
			}
		}
		for _, n := range []int{1, 2, 256} {
			if got := turn(p, n, 1, empty); !got.same(turning{Err: api.ErrArg}) {
				t.Errorf("Turn(.., %d, 1, nothing) = %v; want error 2", n, got)
			}
		}
	}
	if got, e := riffle.Order(p, 0, 1); len(got) > 0 || e != api.OK {
		t.Errorf("Order(.., 0, 1) = %v, error %d", got, e)
	}
}

// A given is what one call of each is handed.
type given struct {
	p         []byte
	n, chunks int
	want      []int
	list      []string
}

// givens: good arguments and bad ones.
func givens() []given {
	p, long := counted(), some(1500, 7)
	r := rand.New(rand.NewSource(1302))
	return []given{
		{nil, 0, 1, nil, nil}, {p[:18], 0, 1, nil, nil}, {p, 0, 3, nil, nil}, {p[:18], 1, 1, []int{0}, []string{"a"}},
		{p, 1, 64, []int{0}, []string{"a"}}, {p, 3, 1, []int{0, 1, 2}, []string{"a", "b", "c"}},
		{p, 3, 1, []int{2, 0, 1}, []string{"a", "b", "c"}}, {p, 4, 2, []int{3, 2, 1, 0}, []string{"a", "b", "c", "d"}},
		{p, 4, 2, []int{3, 2, 1, 1}, []string{"a", "b", "c", "d"}}, {p, 4, 2, []int{3, 2, 1}, []string{"a", "b", "c"}},
		{p, 5, 0, upTo(5), nil}, {p, 20, 1, upTo(20), times(20, "a")}, {high(60, 8), 5, 3, []int{4, 0, 3, 1, 2}, times(5, "b")},
		{long, 100, 7, r.Perm(100), times(100, "c")}, {long, 256, 64, r.Perm(256), times(256, "d")}, {long, 257, 64, nil, times(257, "d")},
	}
}

// Rule 5: what is handed in stays as it is, its spare room too, and what is answered is memory of its own.
func TestMemory(t *testing.T) {
	for _, g := range givens() {
		p, pAll := withRoom(g.p, 77)
		want, wantAll := withRoom(g.want, 78)
		list, listAll := withRoom(g.list, "other")
		pBefore, wantBefore, listBefore := slices.Clone(pAll), slices.Clone(wantAll), slices.Clone(listAll)
		what := fmt.Sprintf("%d bytes, %d, %d, %s", len(g.p), g.n, g.chunks, brief(g.want))
		checkOwn(t, "Order of "+what, func() []int { return order(p, g.n, g.chunks).List }, 9)
		checkOwn(t, "Turn of "+what, func() []byte { return turn(p, g.n, g.chunks, want).Tape }, 9)
		checkOwn(t, "Shuffle of "+what, func() []string {
			l, _ := riffle.Shuffle(p, g.chunks, list)
			return l
		}, "changed")
		if !slices.Equal(pAll, pBefore) || !slices.Equal(wantAll, wantBefore) || !slices.Equal(listAll, listBefore) {
			t.Errorf("%s: what was handed in has changed", what)
		}
	}
}

// checkOwn: two answers of one call share nothing; both are changed, with their spare room, for the sake of what was handed in.
func checkOwn[T comparable](t *testing.T, what string, call func() []T, other T) {
	t.Helper()
	first := call()
	want := slices.Clone(first)
	second := call()
	grown := append(first, other, other, other)
	for _, l := range [][]T{first[:cap(first)], grown} {
		for i := range l {
			l[i] = other
		}
	}
	if !slices.Equal(second, want) {
		t.Errorf("%s: %v beside a changed answer; want %v", what, second, want)
	}
	second = second[:cap(second)]
	for i := range second {
		second[i] = other
	}
}

// Rule 5: an answer is not changed by what becomes of what was handed in.
func TestAnswersStay(t *testing.T) {
	for _, g := range givens() {
		p, want, list := slices.Clone(g.p), slices.Clone(g.want), slices.Clone(g.list)
		o, q := order(p, g.n, g.chunks), turn(p, g.n, g.chunks, want)
		l, e := riffle.Shuffle(p, g.chunks, list)
		clear(p)
		clear(want)
		clear(list)
		again, f := riffle.Shuffle(g.p, g.chunks, g.list)
		if !o.same(order(g.p, g.n, g.chunks)) || !q.same(turn(g.p, g.n, g.chunks, g.want)) || !slices.Equal(l, again) || e != f {
			t.Errorf("%d bytes, %d, %d, %s: an answer has changed", len(g.p), g.n, g.chunks, brief(g.want))
		}
	}
}

// Rule 5: a tape that is shuffled by itself, and a list of orders, are no matter.
func TestOneMemory(t *testing.T) {
	p := some(200, 9)
	before := bytes.Clone(p)
	got, e := riffle.Shuffle(p, 3, p[:30])
	want := order(p, 30, 3)
	for i, v := range want.List {
		if got[i] != before[v] {
			t.Errorf("Shuffle(p, 3, p[:30]): place %d holds %d; want %d", i, got[i], before[v])
		}
	}
	if e != api.OK || !bytes.Equal(p, before) {
		t.Errorf("Shuffle(p, 3, p[:30]): error %d, and the tape is %x; want %x", e, p, before)
	}
}

// Rule 6: what is answered hangs on no call ahead of it; and many calls at one time answer what each would alone.
func TestManyAtOneTime(t *testing.T) {
	all := givens()
	var group sync.WaitGroup
	for caller := range 16 {
		group.Add(1)
		go func() {
			defer group.Done()
			for i := range 30 {
				g := all[(caller+i)%len(all)]
				checkOrder(t, g.p, g.n, g.chunks)
				checkTurn(t, g.p, g.n, g.chunks, g.want)
				checkShuffle(t, g.p, len(g.list), g.chunks)
			}
		}()
	}
	group.Wait()
}

func ExampleOrder() {
	p := make([]byte, 18, 42)
	for i := range 24 {
		p = append(p, byte(i+1))
	}
	order, e := riffle.Order(p, 4, 2)
	fmt.Println(order, int(e))
	_, e = riffle.Order(p[:18], 2, 1)
	fmt.Println(e == api.ErrTape)
	// Output:
	// [0 2 3 1] 0
	// true
}

func ExampleShuffle() {
	p := make([]byte, 18, 42)
	for i := range 24 {
		p = append(p, byte(i+1))
	}
	list, e := riffle.Shuffle(p, 2, []string{"a", "b", "c", "d"})
	fmt.Println(list, int(e))
	// Output: [a c d b] 0
}

func ExampleTurn() {
	p := make([]byte, 18, 42)
	for i := range 24 {
		p = append(p, byte(i+1))
	}
	q, e := riffle.Turn(p, 3, 1, []int{0, 1, 2})
	fmt.Println(len(q), int(e))
	order, e := riffle.Order(q, 3, 1)
	fmt.Println(order, int(e))
	back, e := riffle.Turn(q, 3, 1, []int{2, 0, 1})
	fmt.Println(slices.Equal(back, p), int(e))
	// Output:
	// 42 0
	// [0 1 2] 0
	// true 0
}
