package shards_test

import (
	"fmt"
	"iter"
	"math"
	"math/big"
	"math/rand"
	"slices"
	"testing"

	"churn/api"
	"churn/shards"
)

// tag: sixteen bytes of one letter.
func tag(c byte) (t [16]byte) {
	for i := range t {
		t[i] = c
	}
	return t
}

// tags: a list of such tags, one for each letter.
func tags(letters string) (list [][16]byte) {
	for i := range len(letters) {
		list = append(list, tag(letters[i]))
	}
	return list
}

// numbered: n tags from number first on, told apart by their first eight bytes, so that they lie in shards one behind the other.
func numbered(first, n int) (list [][16]byte) {
	for i := range n {
		list = append(list, split(uint64(first+i), 0))
	}
	return list
}

// split: a tag of two numbers, the one that tells its shard and the one that doesn't.
func split(head, tail uint64) (t [16]byte) {
	for i := range 8 {
		t[i], t[8+i] = byte(head>>(56-8*i)), byte(tail>>(56-8*i))
	}
	return t
}

func someTag(r *rand.Rand) [16]byte { return split(r.Uint64(), r.Uint64()) }

// made: an empty filter; the test ends if there is none.
func made(t testing.TB, count int) *shards.Filter {
	t.Helper()
	f, e := shards.New(count)
	if f == nil || e != api.OK {
		t.Fatalf("New(%d) = %v, error %d", count, f, e)
	}
	return f
}

// An offer is what a filter is offered.
type offer struct {
	tag   [16]byte
	index int
}

func offerAll(f *shards.Filter, list []offer) {
	for _, o := range list {
		f.Offer(o.tag, o.index)
	}
}

// A lowest is what Lowest answers.
type lowest struct {
	Index int
	Is    bool
}

func asked(f *shards.Filter, tag [16]byte) lowest {
	index, is := f.Lowest(tag)
	return lowest{index, is}
}

// The words of the chapter, each over a list of all that was offered.

func definedLowest(list []offer, tag [16]byte) (out lowest) {
	for _, o := range list {
		if o.tag == tag && (!out.Is || o.index < out.Index) {
			out = lowest{o.index, true}
		}
	}
	return out
}

func definedLen(list []offer) (n int) {
	for i, o := range list {
		if !slices.ContainsFunc(list[:i], func(p offer) bool { return p.tag == o.tag }) {
			n++
		}
	}
	return n
}

func definedShard(tag [16]byte, count int) int {
	if count < 1 || count > 64 {
		return 0
	}
	number := new(big.Int).SetBytes(tag[:8])
	return int(number.Mod(number, big.NewInt(int64(count))).Int64())
}

func definedFirsts(list [][16]byte) (out []bool) {
	for i, tag := range list {
		out = append(out, !slices.Contains(list[:i], tag))
	}
	return out
}

// checkFilter: whether a filter answers as the offers say, of all tags that were offered and of those beside them.
func checkFilter(t testing.TB, what string, f *shards.Filter, list []offer, beside ...[16]byte) {
	t.Helper()
	for _, o := range list {
		beside = append(beside, o.tag)
	}
	for _, tag := range beside {
		if got, want := asked(f, tag), definedLowest(list, tag); got != want {
			t.Errorf("%s: Lowest(%x) = %v; want %v", what, tag, got, want)
		}
	}
	if got, want := f.Len(), definedLen(list); got != want {
		t.Errorf("%s: Len = %d; want %d", what, got, want)
	}
}

// A firsts is what Firsts answers.
type firsts struct {
	List []bool
	Err  api.Errno
}

func (a firsts) same(b firsts) bool { return slices.Equal(a.List, b.List) && a.Err == b.Err }

// String: F for a first, a point for another.
func (a firsts) String() string {
	s := ""
	for _, is := range a.List {
		s += map[bool]string{true: "F", false: "."}[is]
	}
	if len(s) > 300 {
		s = s[:300] + fmt.Sprintf(" .. (%d)", len(a.List))
	}
	return fmt.Sprintf("(%s, error %d)", s, a.Err)
}

func firstsOf(list [][16]byte, count, workers int) firsts {
	out, e := shards.Firsts(list, count, workers)
	return firsts{out, e}
}

// refused: what stands beside an error.
func refused(e api.Errno) firsts { return firsts{Err: e} }

// letterLists: all lists of at most so many of the letters.
func letterLists(letters string, most int) []string {
	out := []string{""}
	for from := 0; most > 0; most-- {
		end := len(out)
		for _, s := range out[from:end] {
			for _, l := range letters {
				out = append(out, s+string(l))
			}
		}
		from = end
	}
	return out
}

// orders: the list in every order of its places.
func orders[T any](list []T) iter.Seq[[]T] {
	return func(yield func([]T) bool) { ordered(nil, list, yield) }
}

func ordered[T any](ahead, rest []T, yield func([]T) bool) bool {
	if len(rest) == 0 {
		return yield(ahead)
	}
	for i := range rest {
		others := slices.Concat(rest[:i], rest[i+1:])
		if !ordered(slices.Concat(ahead, rest[i:i+1]), others, yield) {
			return false
		}
	}
	return true
}

// outside: numbers that are neither shards nor workers, those among them that would be if they were cut to fewer bits or their sign left out.
var outside = []int{0, -1, -2, -8, -63, -64, -65, -128, -255, -256, -1 << 16, 1 - 1<<16, -1 << 31, 1 - 1<<32, -1 << 62, math.MinInt + 1, math.MinInt + 64, math.MinInt,
	65, 66, 100, 127, 128, 129, 255, 256, 257, 256 + 64, 1 << 16, 1<<16 + 1, 1<<31 - 1, 1 << 31, 1 << 32, 1<<32 + 1, 1<<32 + 64, 1<<62 + 2, math.MaxInt - 63, math.MaxInt}

// ends: indexes at the ends of their type, about 0, and about the ends of shorter types.
var ends = []int{math.MinInt, math.MinInt + 1, -1 << 32, -1<<31 - 1, -1 << 31, -256, -2, -1, 0, 1, 2, 255, 256, 1<<31 - 1, 1 << 31, 1 << 32, math.MaxInt - 1, math.MaxInt}

// fewCounts: numbers of shards, both limits among them.
var fewCounts = []int{1, 2, 3, 7, 8, 10, 31, 32, 63, 64}
