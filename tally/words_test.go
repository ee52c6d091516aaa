package tally_test

import (
	"bytes"
	"fmt"
	"math"
	"math/big"
	"math/rand"
	"slices"
	"testing"

	"churn/api"
	"churn/tally"
)

func join[T any](pieces ...[]T) []T { return slices.Concat(pieces...) }

// times: a list of n that are all v.
func times[T any](n int, v T) []T { return slices.Repeat([]T{v}, n) }

// with: the list with v at the place at.
func with[T any](list []T, at int, v T) []T {
	out := slices.Clone(list)
	out[at] = v
	return out
}

// noBounds: numbers about the bounds and far from them that are none.
var noBounds = []int{0, -1, -2, -3, -128, -255, -256, 257, 258, 259, 511, 512, 513, 65536,
	1 << 31, 1 << 32, 1<<32 + 1, 1<<32 + 3, -1 << 31, -1 << 32, 1 - 1<<32, math.MaxInt, math.MinInt}

// tooGreat and tooSmall: lengths, and numbers of draws, that are not counted.
var (
	tooGreat = []int{65, 66, 127, 128, 255, 256, 257, 1 << 20, 1<<31 - 1, 1 << 31, 1 << 32, 1<<32 + 1, 1<<61 + 1, math.MaxInt - 1, math.MaxInt}
	tooSmall = []int{-1, -2, -64, -65, -256, -1 << 31, -1 << 32, 1 - 1<<32, math.MinInt + 1, math.MinInt}
)

// edges: the bounds that stand at an end of something.
var edges = []int{1, 2, 3, 85, 86, 127, 128, 129, 130, 254, 255, 256}

// anyBounds: n bounds without a rule, many of them edges.
func anyBounds(r *rand.Rand, n int) []int {
	bounds := make([]int, n)
	for i := range bounds {
		bounds[i] = 1 + r.Intn(256)
		if r.Intn(3) == 0 {
			bounds[i] = edges[r.Intn(len(edges))]
		}
	}
	return bounds
}

// A told is what a call answers.
type told struct {
	Bytes []byte
	Err   api.Errno
}

func (a told) String() string { return fmt.Sprintf("%x, error %d", a.Bytes, a.Err) }

func (a told) same(b told) bool { return bytes.Equal(a.Bytes, b.Bytes) && a.Err == b.Err }

func all(length int) told {
	b, e := tally.All(length)
	return told{b, e}
}

func good(bounds []int, length int) told {
	b, e := tally.Good(bounds, length)
	return told{b, e}
}

func each(bounds []int, length int) told {
	b, e := tally.Each(bounds, length)
	return told{b, e}
}

func bound(draws, length int) told {
	b, e := tally.Bound(draws, length)
	return told{b, e}
}

// number: the whole number that an answer tells. It fails where the answer is an error or begins with a nought.
func number(t *testing.T, a told) *big.Int {
	t.Helper()
	if a.Err != api.OK || (len(a.Bytes) > 0 && a.Bytes[0] == 0) {
		t.Fatalf("%v is not how a number is told", a)
	}
	sum := new(big.Int)
	for _, v := range a.Bytes {
		sum.Mul(sum, big.NewInt(256))
		sum.Add(sum, big.NewInt(int64(v)))
	}
	return sum
}

// A whole is a whole number as its bytes, the least first, the last one not 0: reckoned by hand.
type whole []byte

func one() whole { return whole{1} }

// trimmed: without noughts at the end.
func (a whole) trimmed() whole {
	for len(a) > 0 && a[len(a)-1] == 0 {
		a = a[:len(a)-1]
	}
	return a
}

func (a whole) plus(b whole) whole {
	out := make(whole, max(len(a), len(b))+1)
	carry := 0
	for i := range out {
		if i < len(a) {
			carry += int(a[i])
		}
		if i < len(b) {
			carry += int(b[i])
		}
		out[i] = byte(carry)
		carry >>= 8
	}
	return out.trimmed()
}

// by: a times n; n is from 0 to 256.
func (a whole) by(n int) whole {
	out := make(whole, len(a)+2)
	carry := 0
	for i := range out {
		if i < len(a) {
			carry += int(a[i]) * n
		}
		out[i] = byte(carry)
		carry >>= 8
	}
	return out.trimmed()
}

// told: as the chapter tells numbers.
func (a whole) told() told {
	out := slices.Clone([]byte(a))
	slices.Reverse(out)
	return told{Bytes: out}
}

// top: the greatest multiple of the bound b that is at most 256, by steps of b.
func top(b int) int {
	t := 0
	for t+b <= 256 {
		t += b
	}
	return t
}

// refusal: the chapter's errors of Good and Each, in their order.
func refusal(bounds []int, length int) api.Errno {
	switch {
	case length < 0:
		return api.ErrArg
	case length > 64 || len(bounds) > 64:
		return api.ErrLong
	case slices.ContainsFunc(bounds, func(b int) bool { return b < 1 || b > 256 }):
		return api.ErrArg
	}
	return api.OK
}

// walked: of the tapes of length bytes those that have draws for all bounds, reckoned byte by byte from the front: of the tapes so far, how many have told just so many draws. Of the bytes that tell a draw below b just telling(b) count.
func walked(bounds []int, length int, telling func(b int) int) whole {
	reading := slices.DeleteFunc(slices.Clone(bounds), func(b int) bool { return b == 1 })
	drawn := make([]whole, len(reading)+1)
	drawn[0] = one()
	for range length {
		next := make([]whole, len(drawn))
		for j, tapes := range drawn {
			if j == len(reading) {
				next[j] = next[j].plus(tapes.by(256))
				continue
			}
			b := reading[j]
			next[j] = next[j].plus(tapes.by(256 - top(b)))
			next[j+1] = next[j+1].plus(tapes.by(telling(b)))
		}
		drawn = next
	}
	return drawn[len(reading)]
}

func definedGood(bounds []int, length int) told {
	if e := refusal(bounds, length); e != api.OK {
		return told{Err: e}
	}
	return walked(bounds, length, top).told()
}

func definedEach(bounds []int, length int) told {
	if e := refusal(bounds, length); e != api.OK {
		return told{Err: e}
	}
	return walked(bounds, length, func(b int) int { return top(b) / b }).told()
}

// checkCounts: Good and Each against the words above.
func checkCounts(t *testing.T, bounds []int, length int) {
	t.Helper()
	if got, want := good(bounds, length), definedGood(bounds, length); !got.same(want) {
		t.Errorf("Good(%v, %d) = %v; want %v", bounds, length, got, want)
	}
	if got, want := each(bounds, length), definedEach(bounds, length); !got.same(want) {
		t.Errorf("Each(%v, %d) = %v; want %v", bounds, length, got, want)
	}
}

// drawsOf: the draws below these bounds from p, one behind the other, by the words of layer 10; false, if p is exhausted.
func drawsOf(p []byte, bounds []int, tops []int, draws []int) bool {
	at := 0
	for i, b := range bounds {
		if b == 1 {
			draws[i] = 0
			continue
		}
		for at < len(p) && int(p[at]) >= tops[i] {
			at++
		}
		if at == len(p) {
			return false
		}
		draws[i] = int(p[at]) % b
		at++
	}
	return true
}

// everyTape: calls with each tape of length bytes; it is the same memory each time.
func everyTape(length int, call func(p []byte)) {
	p := make([]byte, length)
	for {
		call(p)
		at := length - 1
		for at >= 0 && p[at] == 255 {
			p[at] = 0
			at--
		}
		if at < 0 {
			return
		}
		p[at]++
	}
}

// small: a number that fits an int as the chapter tells it.
func small(n int) told {
	var out []byte
	for ; n > 0; n /= 256 {
		out = append([]byte{byte(n % 256)}, out...)
	}
	return told{Bytes: out}
}
