package perm_test

import (
	"fmt"
	"math"
	"math/rand"
	"slices"
	"testing"

	"churn/api"
	"churn/perm"
)

func join[T any](pieces ...[]T) []T { return slices.Concat(pieces...) }

// times: a list of n that are all v.
func times[T any](n int, v T) []T { return slices.Repeat([]T{v}, n) }

// withRoom: list in the midst of others, which are its spare room too; and all of them.
func withRoom[T any](list []T, other T) (inside, all []T) {
	all = join(times(5, other), list, times(40, other))
	return all[5 : 5+len(list)], all
}

// brief: a list for a failure's text, cut short.
func brief[T any](list []T) string {
	if len(list) > 40 {
		return fmt.Sprintf("%v .. (%d)", list[:40], len(list))
	}
	return fmt.Sprint(list)
}

// far: numbers that are in no permutation, no draws and no digits that a test makes.
var far = []int{-1, -2, -128, -255, -256, -1 << 31, -1 << 32, 1 - 1<<32, math.MinInt, math.MinInt + 1,
	1 << 20, 1 << 31, 1 << 32, 1<<32 + 1, math.MaxInt - 1, math.MaxInt}

// counted: 0 to n - 1, by a loop of its own.
func counted(n int) []int {
	var list []int
	for i := 0; i < n; i++ {
		list = append(list, i)
	}
	return list
}

// lists: all lists whose number k is from 0 to below bounds[k], in rising order.
func lists(bounds []int) [][]int {
	out := [][]int{nil}
	for _, b := range bounds {
		var longer [][]int
		for _, l := range out {
			for v := range b {
				longer = append(longer, join(l, []int{v}))
			}
		}
		out = longer
	}
	return out
}

// permutations: all permutations of n things, in rising order.
func permutations(n int) [][]int {
	var out [][]int
	for _, l := range lists(times(n, n)) {
		if isPermutation(l) {
			out = append(out, l)
		}
	}
	return out
}

// anyPermutation: one without a rule.
func anyPermutation(r *rand.Rand, n int) []int { return r.Perm(n) }

// isPermutation: sorted, it is 0, 1, ..
func isPermutation(p []int) bool {
	return slices.Equal(slices.Sorted(slices.Values(p)), counted(len(p)))
}

// drawBounds: the bounds of n things' draws, from the last to the first.
func drawBounds(n int) []int {
	var out []int
	for b := 2; b <= n; b++ {
		out = append([]int{b}, out...)
	}
	return out
}

// digitBounds: the bounds of the digits of n things.
func digitBounds(n int) []int {
	if n == 0 {
		return nil
	}
	return append(drawBounds(n), 1)
}

// within: as many numbers as bounds, each from 0 to below its own.
func within(list, bounds []int) bool {
	if len(list) != len(bounds) {
		return false
	}
	for i, v := range list {
		if v < 0 || v >= bounds[i] {
			return false
		}
	}
	return true
}

// An answer is what most calls give.
type answer struct {
	List []int
	Err  api.Errno
}

func (a answer) String() string { return fmt.Sprintf("%s, error %d", brief(a.List), a.Err) }

func (a answer) same(b answer) bool { return slices.Equal(a.List, b.List) && a.Err == b.Err }

// definedCheck: the chapter's words.
func definedCheck(p []int) api.Errno {
	if !isPermutation(p) {
		return api.ErrPerm
	}
	return api.OK
}

// definedCompose: the chapter's words.
func definedCompose(p, q []int) answer {
	if !isPermutation(p) || !isPermutation(q) || len(p) != len(q) {
		return answer{Err: api.ErrPerm}
	}
	var out []int
	for i := range p {
		out = append(out, q[p[i]])
	}
	return answer{List: out}
}

// definedInverse: the chapter's words: at the place v the i with p[i] = v.
func definedInverse(p []int) answer {
	if !isPermutation(p) {
		return answer{Err: api.ErrPerm}
	}
	var out []int
	for v := range p {
		out = append(out, slices.Index(p, v))
	}
	return answer{List: out}
}

// definedApply: the chapter's words.
func definedApply[T any](p []int, list []T) ([]T, api.Errno) {
	if !isPermutation(p) || len(p) != len(list) {
		return nil, api.ErrPerm
	}
	var out []T
	for i := range p {
		out = append(out, list[p[i]])
	}
	return out, api.OK
}

// definedFrom: the chapter's words, in their order.
func definedFrom(n int, draws []int) answer {
	if n < 0 {
		return answer{Err: api.ErrArg}
	}
	// More things than these have other draws than any test hands in.
	if n > 1<<20 || !within(draws, drawBounds(n)) {
		return answer{Err: api.ErrPerm}
	}
	a := counted(n)
	for k := 0; k <= n-2; k++ {
		i := n - 1 - k
		here, there := a[i], a[draws[k]]
		a[i], a[draws[k]] = there, here
	}
	return answer{List: a}
}

// definedDraws: the chapter's words: number by number the draw is sought by which From would put the right thing in its place.
func definedDraws(p []int) answer {
	if !isPermutation(p) {
		return answer{Err: api.ErrPerm}
	}
	a := counted(len(p))
	var out []int
	for i := len(p) - 1; i >= 1; i-- {
		d := slices.Index(a, p[i])
		a[i], a[d] = a[d], a[i]
		out = append(out, d)
	}
	return answer{List: out}
}

// definedRank: the chapter's words.
func definedRank(p []int) answer {
	if !isPermutation(p) {
		return answer{Err: api.ErrPerm}
	}
	var out []int
	for i := range p {
		below := 0
		for j := i + 1; j < len(p); j++ {
			if p[j] < p[i] {
				below++
			}
		}
		out = append(out, below)
	}
	return answer{List: out}
}

// definedUnrank: the chapter's words, from the last digit to the first: a number put ahead of others makes room for itself among them.
func definedUnrank(digits []int) answer {
	if !within(digits, digitBounds(len(digits))) {
		return answer{Err: api.ErrPerm}
	}
	var out []int
	for i := len(digits) - 1; i >= 0; i-- {
		for k, v := range out {
			if v >= digits[i] {
				out[k]++
			}
		}
		out = append([]int{digits[i]}, out...)
	}
	return answer{List: out}
}

func compose(p, q []int) answer {
	r, e := perm.Compose(p, q)
	return answer{r, e}
}

func inverse(p []int) answer {
	r, e := perm.Inverse(p)
	return answer{r, e}
}

func apply(p, list []int) answer {
	r, e := perm.Apply(p, list)
	return answer{r, e}
}

func from(n int, draws []int) answer {
	r, e := perm.From(n, draws)
	return answer{r, e}
}

func draws(p []int) answer {
	r, e := perm.Draws(p)
	return answer{r, e}
}

func rank(p []int) answer {
	r, e := perm.Rank(p)
	return answer{r, e}
}

func unrank(digits []int) answer {
	r, e := perm.Unrank(digits)
	return answer{r, e}
}

// checkOne: all calls that are given one list, held against the chapter's words.
func checkOne(t *testing.T, p []int) {
	t.Helper()
	if got, want := perm.Check(p), definedCheck(p); got != want {
		t.Errorf("Check(%s): error %d; want %d", brief(p), got, want)
	}
	if got, want := inverse(p), definedInverse(p); !got.same(want) {
		t.Errorf("Inverse(%s) = %v; want %v", brief(p), got, want)
	}
	if got, want := draws(p), definedDraws(p); !got.same(want) {
		t.Errorf("Draws(%s) = %v; want %v", brief(p), got, want)
	}
	if got, want := rank(p), definedRank(p); !got.same(want) {
		t.Errorf("Rank(%s) = %v; want %v", brief(p), got, want)
	}
	checkUnrank(t, p)
}

func checkUnrank(t *testing.T, digits []int) {
	t.Helper()
	if got, want := unrank(digits), definedUnrank(digits); !got.same(want) {
		t.Errorf("Unrank(%s) = %v; want %v", brief(digits), got, want)
	}
}

func checkFrom(t *testing.T, n int, d []int) {
	t.Helper()
	if got, want := from(n, d), definedFrom(n, d); !got.same(want) {
		t.Errorf("From(%d, %s) = %v; want %v", n, brief(d), got, want)
	}
}

// checkTwo: Compose and Apply of two lists, held against the chapter's words.
func checkTwo(t *testing.T, p, q []int) {
	t.Helper()
	if got, want := compose(p, q), definedCompose(p, q); !got.same(want) {
		t.Errorf("Compose(%s, %s) = %v; want %v", brief(p), brief(q), got, want)
	}
	list, e := definedApply(p, q)
	if got := apply(p, q); !got.same(answer{list, e}) {
		t.Errorf("Apply(%s, %s) = %v; want %v", brief(p), brief(q), got, answer{list, e})
	}
}
