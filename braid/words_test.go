package braid_test

import (
	"fmt"
	"math"
	"math/rand"
	"slices"
	"testing"

	"churn/api"
	"churn/braid"
)

func join[T any](pieces ...[]T) []T { return slices.Concat(pieces...) }

// times: a list of n that are all v.
func times[T any](n int, v T) []T { return slices.Repeat([]T{v}, n) }

// withRoom: list in the midst of others, which are its spare room too; and all of them.
func withRoom[T any](list []T, other T) (inside, all []T) {
	all = join(times(5, other), list, times(40, other))
	return all[5 : 5+len(list)], all
}

// with: the list with v at the place at.
func with(list []int, at, v int) []int {
	out := slices.Clone(list)
	out[at] = v
	return out
}

// brief: a list for a failure's text, cut short.
func brief[T any](list []T) string {
	if len(list) > 40 {
		return fmt.Sprintf("%v .. (%d)", list[:40], len(list))
	}
	return fmt.Sprint(list)
}

// far: numbers that are no size, no draw, no offset and no chunk's number.
var far = []int{-1, -2, -128, -255, -256, -1 << 31, -1 << 32, 1 - 1<<32, math.MinInt, math.MinInt + 1,
	257, 1 << 20, 1 << 31, 1 << 32, 1<<32 + 1, math.MaxInt - 1, math.MaxInt}

// lists: all lists whose number k is from 0 to below bounds[k], in rising order.
func lists(bounds []int) [][]int {
	out := [][]int{nil}
	for _, b := range bounds {
		var longer [][]int
		for _, l := range out {
			for v := range b {
				longer = append(longer, join(l, []int{v}))
			}
		}
		out = longer
	}
	return out
}

// listsFrom: all lists of n numbers from low to high.
func listsFrom(low, high, n int) [][]int {
	out := lists(times(n, high-low+1))
	for _, l := range out {
		for i := range l {
			l[i] += low
		}
	}
	return out
}

// smallSizes: all sizes of 1 to so many chunks that are together at most n, sizes of 0 among them.
func smallSizes(chunks, n int) [][]int {
	var out [][]int
	for c := 1; c <= chunks; c++ {
		for _, l := range lists(times(c, n+1)) {
			if total(l) <= n {
				out = append(out, l)
			}
		}
	}
	return out
}

// total: the numbers together, by a loop of its own.
func total(list []int) int {
	n := 0
	for i := 0; i < len(list); i++ {
		n = n + list[i]
	}
	return n
}

// falling: n, n - 1, .. 1.
func falling(n int) []int {
	var out []int
	for b := n; b >= 1; b-- {
		out = append(out, b)
	}
	return out
}

// offsetBounds: the bounds of the offsets by visits.
func offsetBounds(sizes []int) []int {
	var out []int
	for _, s := range sizes {
		out = append(out, falling(s)...)
	}
	return out
}

// within: as many numbers as bounds, each from 0 to below its own.
func within(list, bounds []int) bool {
	if len(list) != len(bounds) {
		return false
	}
	for i, v := range list {
		if v < 0 || v >= bounds[i] {
			return false
		}
	}
	return true
}

// below: a list without a rule, each number from 0 to below its bound.
func below(r *rand.Rand, bounds []int) []int {
	var out []int
	for _, b := range bounds {
		out = append(out, r.Intn(b))
	}
	return out
}

// tops: the greatest numbers that are below the bounds.
func tops(bounds []int) []int {
	var out []int
	for _, b := range bounds {
		out = append(out, b-1)
	}
	return out
}

// inOrder: the pattern of sizes that puts the chunks one behind the other.
func inOrder(sizes []int) []int {
	var out []int
	for j, s := range sizes {
		out = append(out, times(s, j)...)
	}
	return out
}

// anyPattern: a pattern of sizes without a rule.
func anyPattern(r *rand.Rand, sizes []int) []int {
	out := inOrder(sizes)
	r.Shuffle(len(out), func(i, j int) { out[i], out[j] = out[j], out[i] })
	return out
}

// anySizes: sizes of so many chunks, together at most n, without a rule.
func anySizes(r *rand.Rand, chunks, n int) []int {
	out := make([]int, chunks)
	for range r.Intn(n + 1) {
		out[r.Intn(chunks)]++
	}
	return out
}

// An answer is what Sizes and Draws give.
type answer struct {
	List []int
	Err  api.Errno
}

func (a answer) String() string { return fmt.Sprintf("%s, error %d", brief(a.List), a.Err) }

func (a answer) same(b answer) bool { return slices.Equal(a.List, b.List) && a.Err == b.Err }

// A telling is what Pattern gives.
type telling struct {
	Chunk, Offset []int
	Err           api.Errno
}

func (a telling) String() string {
	return fmt.Sprintf("chunks %s, offsets %s, error %d", brief(a.Chunk), brief(a.Offset), a.Err)
}

func (a telling) same(b telling) bool {
	return slices.Equal(a.Chunk, b.Chunk) && slices.Equal(a.Offset, b.Offset) && a.Err == b.Err
}

// refused: what stands beside ErrArg.
var refused, untold = answer{Err: api.ErrArg}, telling{Err: api.ErrArg}

// definedSizes: the chapter's words: things dealt out one by one, chunk by chunk, round and round.
func definedSizes(n, chunks int) answer {
	if n < 0 || n > 256 || chunks < 1 || chunks > 64 {
		return refused
	}
	out := make([]int, chunks)
	for i := range n {
		out[i%chunks]++
	}
	return answer{List: out}
}

// definedBounds: the chapter's words.
func definedBounds(n int) []int {
	if n < 1 || n > 256 {
		return nil
	}
	return falling(n)
}

// isSizes: the chapter's words.
func isSizes(sizes []int) bool {
	if len(sizes) < 1 || len(sizes) > 64 {
		return false
	}
	for _, s := range sizes {
		if s < 0 || s > 256 {
			return false
		}
	}
	return total(sizes) <= 256
}

// isPattern: sorted, the chunks stand one behind the other.
func isPattern(sizes, chunk []int) bool {
	return slices.Equal(slices.Sorted(slices.Values(chunk)), inOrder(sizes))
}

// definedPattern: the chapter's words.
func definedPattern(sizes, draws []int) telling {
	if !isSizes(sizes) || !within(draws, falling(total(sizes))) {
		return untold
	}
	left := slices.Clone(sizes)
	visits := make([][]int, len(sizes))
	var chunk []int
	for _, d := range draws {
		for j := range left {
			if total(left[:j]) <= d && d < total(left[:j+1]) {
				chunk = append(chunk, j)
				visits[j] = append(visits[j], d-total(left[:j]))
				left[j]--
				break
			}
		}
	}
	return telling{chunk, join(visits...), api.OK}
}

// definedDraws: the chapter's words.
func definedDraws(sizes, chunk, offset []int) answer {
	if !isSizes(sizes) || !isPattern(sizes, chunk) || !within(offset, offsetBounds(sizes)) {
		return refused
	}
	left := slices.Clone(sizes)
	var out []int
	for _, j := range chunk {
		visit := total(sizes[:j]) + sizes[j] - left[j]
		out = append(out, total(left[:j])+offset[visit])
		left[j]--
	}
	return answer{List: out}
}

// definedWeave: the chapter's words: at the place i the thing whose number is how often the chunk stands ahead.
func definedWeave[T any](chunk []int, chunks [][]T) ([]T, api.Errno) {
	often := make([]int, len(chunks))
	var out []T
	for _, j := range chunk {
		if j < 0 || j >= len(chunks) {
			return nil, api.ErrArg
		}
		if often[j] < len(chunks[j]) {
			out = append(out, chunks[j][often[j]])
		}
		often[j]++
	}
	for j, l := range chunks {
		if often[j] != len(l) {
			return nil, api.ErrArg
		}
	}
	return out, api.OK
}

func sizes(n, chunks int) answer {
	l, e := braid.Sizes(n, chunks)
	return answer{l, e}
}

func pattern(sizes, draws []int) telling {
	chunk, offset, e := braid.Pattern(sizes, draws)
	return telling{chunk, offset, e}
}

func draws(sizes, chunk, offset []int) answer {
	l, e := braid.Draws(sizes, chunk, offset)
	return answer{l, e}
}

func checkPattern(t *testing.T, sizes, list []int) {
	t.Helper()
	if got, want := pattern(sizes, list), definedPattern(sizes, list); !got.same(want) {
		t.Errorf("Pattern(%s, %s) = %v; want %v", brief(sizes), brief(list), got, want)
	}
}

func checkDraws(t *testing.T, sizes, chunk, offset []int) {
	t.Helper()
	if got, want := draws(sizes, chunk, offset), definedDraws(sizes, chunk, offset); !got.same(want) {
		t.Errorf("Draws(%s, %s, %s) = %v; want %v", brief(sizes), brief(chunk), brief(offset), got, want)
	}
}

func checkWeave[T comparable](t *testing.T, chunk []int, chunks [][]T) {
	t.Helper()
	got, e := braid.Weave(chunk, chunks)
	want, wantErr := definedWeave(chunk, chunks)
	if !slices.Equal(got, want) || e != wantErr {
		t.Errorf("Weave(%s, %s) = %s, error %d; want %s, error %d", brief(chunk), brief(chunks), brief(got), e, brief(want), wantErr)
	}
}

// checkBothWays: good draws told and taken back.
func checkBothWays(t *testing.T, sizes, list []int) {
	t.Helper()
	checkPattern(t, sizes, list)
	told := pattern(sizes, list)
	if back := draws(sizes, told.Chunk, told.Offset); told.Err != api.OK || !back.same(answer{List: list}) {
		t.Errorf("Draws(Pattern(%s, %s) = %v) = %v", brief(sizes), brief(list), told, back)
	}
}
