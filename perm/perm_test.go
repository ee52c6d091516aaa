package perm_test

import (
	"bytes"
	"fmt"
	"math"
	"math/rand"
	"slices"
	"sync"
	"testing"

	"churn/api"
	"churn/perm"
)

// P11.1: the chapter's examples.
func TestExamples(t *testing.T) {
	for _, c := range []struct {
		p    []int
		want api.Errno
	}{{[]int{1, 0, 2}, api.OK}, {nil, api.OK}, {[]int{0, 0}, api.ErrPerm}, {[]int{1, 2}, api.ErrPerm}} {
		if e := perm.Check(c.p); e != c.want {
			t.Errorf("Check(%v): error %d; want %d", c.p, e, c.want)
		}
	}
	letters, e := perm.Apply([]int{1, 2, 0}, []string{"a", "b", "c"})
	if !slices.Equal(letters, []string{"b", "c", "a"}) || e != api.OK {
		t.Errorf("Apply(1 2 0, a b c) = %v, error %d", letters, e)
	}
	if b := perm.Bounds(4); !slices.Equal(b, []int{4, 3, 2}) {
		t.Errorf("Bounds(4) = %v", b)
	}
	for _, c := range []struct {
		what      string
		got, want answer
	}{
		{"Compose(1 2 0, 0 2 1)", compose([]int{1, 2, 0}, []int{0, 2, 1}), answer{List: []int{2, 1, 0}}},
		{"Inverse(1 2 0)", inverse([]int{1, 2, 0}), answer{List: []int{2, 0, 1}}},
		{"From(4, 0 0 0)", from(4, []int{0, 0, 0}), answer{List: []int{1, 2, 3, 0}}},
		{"Draws(1 2 3 0)", draws([]int{1, 2, 3, 0}), answer{List: []int{0, 0, 0}}},
		{"From(1, none)", from(1, nil), answer{List: []int{0}}},
		{"From(0, none)", from(0, nil), answer{}},
		{"From(2, 2)", from(2, []int{2}), answer{Err: api.ErrPerm}},
		{"From(3, 0)", from(3, []int{0}), answer{Err: api.ErrPerm}},
		{"From(-1, none)", from(-1, nil), answer{Err: api.ErrArg}},
		{"Rank(2 0 1)", rank([]int{2, 0, 1}), answer{List: []int{2, 0, 0}}},
		{"Unrank(2 0 0)", unrank([]int{2, 0, 0}), answer{List: []int{2, 0, 1}}},
		{"Unrank(0 1)", unrank([]int{0, 1}), answer{Err: api.ErrPerm}},
	} {
		if !c.got.same(c.want) {
			t.Errorf("%s = %v; want %v", c.what, c.got, c.want)
		}
	}
}

// P11.1: the errors' numbers, as the document tells them.
func TestNumbersOfErrors(t *testing.T) {
	none := []int{0, 0}
	_, applied := perm.Apply(none, []string{"a", "b"})
	for what, e := range map[string]api.Errno{
		"Check": perm.Check(none), "Compose": compose(none, none).Err, "Inverse": inverse(none).Err, "Apply": applied,
		"From": from(2, []int{2}).Err, "Draws": draws(none).Err, "Rank": rank(none).Err, "Unrank": unrank([]int{0, 1}).Err,
	} {
		if int(e) != 110 {
			t.Errorf("%s: error %d; want 110", what, e)
		}
	}
	if e := from(-1, nil).Err; int(e) != 2 {
		t.Errorf("From(-1): error %d; want 2", e)
	}
	if e := perm.Check([]int{0, 1}); int(e) != 0 {
		t.Errorf("Check(0 1): error %d; want 0", e)
	}
}

// known: draws, the permutation that they give, its inverse and its digits, all told by another program.
var known = []struct {
	draws, p, inverse, digits []int
}{
	{[]int{1, 1, 1, 0}, []int{2, 0, 3, 4, 1}, []int{1, 4, 0, 2, 3}, []int{2, 0, 1, 1, 0}},
	{[]int{2, 3, 0, 1, 0, 1}, []int{6, 5, 4, 1, 0, 3, 2}, []int{4, 3, 6, 5, 2, 1, 0}, []int{6, 5, 4, 1, 0, 1, 0}},
	{[]int{1, 7, 1, 5, 4, 1, 1, 0}, []int{2, 0, 3, 6, 4, 5, 8, 7, 1},
		[]int{1, 8, 0, 2, 4, 5, 3, 7, 6}, []int{2, 0, 1, 3, 1, 1, 2, 1, 0}},
	{[]int{5, 7, 4, 5, 4, 1, 1, 4, 3, 1, 1}, []int{0, 2, 8, 3, 10, 6, 1, 9, 11, 4, 7, 5},
		[]int{0, 6, 1, 3, 9, 11, 5, 10, 2, 7, 4, 8}, []int{0, 1, 6, 1, 6, 3, 0, 3, 3, 0, 1, 0}},
	{[]int{3, 7, 9, 2, 0, 7, 4, 3, 2, 3, 1, 4, 0, 2, 0}, []int{5, 6, 10, 11, 13, 1, 8, 12, 15, 4, 14, 0, 2, 9, 7, 3},
		[]int{11, 5, 12, 15, 9, 0, 1, 14, 6, 13, 2, 3, 7, 4, 10, 8}, []int{5, 5, 8, 8, 9, 1, 5, 6, 7, 3, 5, 0, 0, 2, 1, 0}},
}

// P11.1: what another program told.
func TestKnown(t *testing.T) {
	for _, k := range known {
		for _, c := range []struct {
			what string
			got  answer
			want []int
		}{
			{"From", from(len(k.p), k.draws), k.p}, {"Draws", draws(k.p), k.draws}, {"Inverse", inverse(k.p), k.inverse},
			{"Inverse, back", inverse(k.inverse), k.p}, {"Rank", rank(k.p), k.digits}, {"Unrank", unrank(k.digits), k.p},
		} {
			if !c.got.same(answer{List: c.want}) {
				t.Errorf("%v: %s: %v; want %v", k.p, c.what, c.got, c.want)
			}
		}
	}
	p, q := []int{7, 0, 5, 3, 1, 4, 6, 2}, []int{3, 0, 2, 1, 7, 6, 4, 5}
	if got := compose(p, q); !got.same(answer{List: []int{5, 3, 6, 1, 0, 7, 4, 2}}) {
		t.Errorf("Compose(%v, %v) = %v", p, q, got)
	}
}

// P11.1: every list of up to six numbers that are in reach of a permutation's, or one outside it.
func TestEveryShortList(t *testing.T) {
	for n := range 6 {
		for _, l := range lists(times(n, n+2)) {
			for i := range l {
				l[i]--
			}
			checkOne(t, l)
		}
	}
	for _, l := range lists(times(6, 6)) {
		checkOne(t, l)
	}
}

// P11.1: of up to six things each permutation is one, and so many there are.
func TestEveryPermutation(t *testing.T) {
	count := 1
	for n := range 7 {
		count *= max(n, 1)
		all := permutations(n)
		if len(all) != count {
			t.Fatalf("%d permutations of %d things; want %d", len(all), n, count)
		}
		for _, p := range all {
			if e := perm.Check(p); e != api.OK {
				t.Errorf("Check(%v): error %d", p, e)
			}
		}
	}
}

// spoilt: lists of n numbers that are no permutations: one number twice and another missing, or one outside, at each place; and all alike.
func spoilt(n int) [][]int {
	var out [][]int
	put := func(at, v int) {
		l := counted(n)
		l[at] = v
		out = append(out, l)
	}
	for at := range n {
		put(at, n)
		put(at, n+1)
		put(at, at-n)
		put(at, -at-1)
		for _, v := range far {
			put(at, v)
		}
		if n > 1 {
			put(at, (at+1)%n)
			put(at, (at+n-1)%n)
		}
	}
	for _, v := range []int{-1, n, n - 1, 0} {
		if n != 1 || v != 0 {
			out = append(out, times(n, v))
		}
	}
	up := counted(n + 1)[1:]
	down := slices.Clone(up)
	slices.Reverse(down)
	return append(out, up, down)
}

// P11.1: what is no permutation is ErrPerm in every call, and nothing stands beside it.
func TestNoPermutations(t *testing.T) {
	for _, n := range []int{1, 2, 3, 4, 7, 40, 257} {
		good, list := counted(n), times(n, "x")
		for _, bad := range spoilt(n) {
			if e := perm.Check(bad); e != api.ErrPerm {
				t.Errorf("Check(%s): error %d; want 110", brief(bad), e)
			}
			for what, got := range map[string]answer{
				"Inverse": inverse(bad), "Draws": draws(bad), "Rank": rank(bad),
				"Compose with it first": compose(bad, good), "Compose with it second": compose(good, bad), "Compose with itself": compose(bad, bad),
				"Apply": apply(bad, good),
			} {
				if got.Err != api.ErrPerm || len(got.List) > 0 {
					t.Errorf("%s: %s: %v; want error 110", what, brief(bad), got)
				}
			}
			if l, e := perm.Apply(bad, list); e != api.ErrPerm || len(l) > 0 {
				t.Errorf("Apply(%s, ..) = %v, error %d; want error 110", brief(bad), l, e)
			}
		}
	}
}

// P11.1: Identity and Bounds of numbers below 0, of 0, 1, 2 and more.
func TestIdentityAndBounds(t *testing.T) {
	for _, n := range []int{math.MinInt, math.MinInt + 1, -1 << 32, -1 << 31, -256, -2, -1, 0, 1} {
		if l := perm.Bounds(n); len(l) > 0 {
			t.Errorf("Bounds(%d) = %v", n, l)
		}
		if l := perm.Identity(n); len(l) != max(n, 0) {
			t.Errorf("Identity(%d) = %v", n, l)
		}
	}
	for n := range 300 {
		if l := perm.Identity(n); !slices.Equal(l, counted(n)) {
			t.Errorf("Identity(%d) = %s", n, brief(l))
		}
		if l := perm.Bounds(n); !slices.Equal(l, drawBounds(n)) {
			t.Errorf("Bounds(%d) = %s", n, brief(l))
		}
		if e := perm.Check(perm.Identity(n)); e != api.OK {
			t.Errorf("Check(Identity(%d)): error %d", n, e)
		}
	}
	const many = 1 << 20
	if l := perm.Identity(many); len(l) != many || l[0] != 0 || l[many/2] != many/2 || l[many-1] != many-1 {
		t.Errorf("Identity(%d) = %s", many, brief(l))
	}
	if l := perm.Bounds(many); len(l) != many-1 || l[0] != many || l[many-2] != 2 {
		t.Errorf("Bounds(%d) = %s", many, brief(l))
	}
}

// P11.1: Compose and Apply of each two permutations of up to four things, of one length and not.
func TestEachTwo(t *testing.T) {
	var all [][]int
	for n := range 5 {
		all = append(all, permutations(n)...)
	}
	for _, p := range all {
		for _, q := range all {
			checkTwo(t, p, q)
			checkTwo(t, p, append([]int{7}, q...))
			checkTwo(t, append([]int{-1}, p...), q)
		}
	}
}

// P11.1: lists of unlike lengths are ErrPerm, each one being a permutation or not: none, one and many on either side.
func TestUnlikeLengths(t *testing.T) {
	sizes := []int{0, 1, 2, 3, 5, 8, 255, 256, 257}
	for _, n := range sizes {
		for _, m := range sizes {
			if n == m {
				continue
			}
			for _, p := range [][]int{counted(n), times(n, 0), times(n, n)} {
				for _, q := range [][]int{counted(m), times(m, 0), times(m, m)} {
					if got := compose(p, q); !got.same(answer{Err: api.ErrPerm}) {
						t.Errorf("Compose of %d and %d: %v; want error 110", n, m, got)
					}
					if got := apply(p, q); !got.same(answer{Err: api.ErrPerm}) {
						t.Errorf("Apply of %d to %d: %v; want error 110", n, m, got)
					}
				}
			}
		}
	}
}

// A thing has parts of several kinds.
type thing struct {
	name string
	at   [2]int
	data []byte
}

// checkApply: Apply to elements that can be held against each other.
func checkApply[T comparable](t *testing.T, p []int, list []T) {
	t.Helper()
	got, e := perm.Apply(p, list)
	want, wantErr := definedApply(p, list)
	if !slices.Equal(got, want) || e != wantErr {
		t.Errorf("Apply(%s, %s) = %s, error %d; want %s, error %d", brief(p), brief(list), brief(got), e, brief(want), wantErr)
	}
}

// P11.1: Apply to elements of other types: texts, bytes, numbers, bools, pointers, interface values, arrays, elements of no size and functions.
func TestOtherTypes(t *testing.T) {
	one, two, three := 1, 2, 3
	for _, p := range append(permutations(3), []int{0, 1}, []int{0, 1, 3}, []int{0, 1, 1}, []int{0, 1, 2, 3}, nil) {
		checkApply(t, p, []string{"", "b", "three"})
		checkApply(t, p, []byte{0, 255, 7})
		checkApply(t, p, []bool{true, false, true})
		checkApply(t, p, []float64{0.5, -1, math.Inf(1)})
		checkApply(t, p, []*int{&one, nil, &three})
		checkApply(t, p, []any{1, "two", nil})
		checkApply(t, p, []error{api.ErrArg, nil, api.ErrPerm})
		checkApply(t, p, [][2]int{{1, 2}, {3, 4}, {5, 6}})
		checkApply(t, p, []struct{}{{}, {}, {}})
		checkApply(t, p, []*int{&two, &two, &two})
		checkApply(t, p, []string{})
		checkApply(t, p, []string(nil))
	}
	called := ""
	steps := []func(){func() { called += "a" }, func() { called += "b" }, func() { called += "c" }}
	turned, e := perm.Apply([]int{2, 0, 1}, steps)
	if e != api.OK || len(turned) != 3 {
		t.Fatalf("Apply to functions: %d of them, error %d", len(turned), e)
	}
	for _, step := range turned {
		step()
	}
	if called != "cab" {
		t.Errorf("Apply to functions: called %s; want cab", called)
	}
}

// P11.1: elements are copied as they are: what they point to is the same memory.
func TestElementsAsTheyAre(t *testing.T) {
	list := [][]byte{{1}, nil, {2, 3}, {}}
	got, e := perm.Apply([]int{2, 0, 3, 1}, list)
	if e != api.OK || len(got) != 4 || &got[0][0] != &list[2][0] || &got[1][0] != &list[0][0] || got[2] == nil || len(got[2]) > 0 || got[3] != nil {
		t.Errorf("Apply to lists: %v, error %d", got, e)
	}
	things := []thing{{"a", [2]int{1, 2}, []byte("x")}, {"b", [2]int{3, 4}, nil}}
	turned, e := perm.Apply([]int{1, 0}, things)
	if e != api.OK || len(turned) != 2 || turned[0].name != "b" || turned[0].at != [2]int{3, 4} || turned[0].data != nil ||
		turned[1].name != "a" || turned[1].at != [2]int{1, 2} || !bytes.Equal(turned[1].data, []byte("x")) {
		t.Errorf("Apply to structs: %v, error %d", turned, e)
	}
}

// P11.1: put in the order of p, the new place i holds what stood at the place p[i].
func TestNewPlaces(t *testing.T) {
	for n := range 6 {
		list := make([]string, n)
		for i := range list {
			list[i] = fmt.Sprint("thing ", i)
		}
		for _, p := range permutations(n) {
			got, e := perm.Apply(p, list)
			if e != api.OK || len(got) != n {
				t.Fatalf("Apply(%v, ..) = %v, error %d", p, got, e)
			}
			for i := range p {
				if got[i] != list[p[i]] {
					t.Errorf("Apply(%v, ..): place %d holds %s; want %s", p, i, got[i], list[p[i]])
				}
			}
		}
	}
}

// P11.2: Identity changes nothing on either side, and Inverse undoes on either side; of every permutation of up to six things.
func TestNeutralAndInverse(t *testing.T) {
	for n := range 7 {
		for _, p := range permutations(n) {
			checkGroup(t, p)
		}
	}
	r := rand.New(rand.NewSource(112))
	for _, n := range []int{7, 20, 255, 256, 257, 1000} {
		for range 10 {
			checkGroup(t, anyPermutation(r, n))
		}
	}
}

func checkGroup(t *testing.T, p []int) {
	t.Helper()
	id := answer{List: perm.Identity(len(p))}
	back := inverse(p)
	for what, c := range map[string][2]answer{
		"Identity first":   {compose(p, id.List), {List: p}},
		"Identity behind":  {compose(id.List, p), {List: p}},
		"Inverse first":    {compose(p, back.List), id},
		"Inverse behind":   {compose(back.List, p), id},
		"Inverse, Inverse": {inverse(back.List), {List: p}},
	} {
		if !c[0].same(c[1]) {
			t.Errorf("%s, %s: %v; want %v", brief(p), what, c[0], c[1])
		}
	}
}

// P11.2: Compose is associative: each three of up to four things, and longer ones without a rule; and what it gives is a permutation.
func TestAssociative(t *testing.T) {
	for n := range 5 {
		all := permutations(n)
		for _, p := range all {
			for _, q := range all {
				for _, r := range all {
					checkThree(t, p, q, r)
				}
			}
		}
	}
	r := rand.New(rand.NewSource(113))
	for range 500 {
		n := r.Intn(300)
		checkThree(t, anyPermutation(r, n), anyPermutation(r, n), anyPermutation(r, n))
	}
}

func checkThree(t *testing.T, p, q, r []int) {
	t.Helper()
	left, right := compose(compose(p, q).List, r), compose(p, compose(q, r).List)
	if !left.same(right) || left.Err != api.OK || perm.Check(left.List) != api.OK || len(left.List) != len(p) {
		t.Errorf("%s, %s, %s: %v and %v", brief(p), brief(q), brief(r), left, right)
	}
}

// P11.4: in the order of q and then of p is in the order of Compose(p, q); in the order of p and then of its inverse is as before.
func TestApplyTwice(t *testing.T) {
	for n := range 6 {
		all, list := permutations(n), make([]string, n)
		for i := range list {
			list[i] = string(rune('a' + i))
		}
		for _, p := range all {
			for _, q := range all {
				checkTwice(t, p, q, list)
			}
		}
	}
	r := rand.New(rand.NewSource(114))
	for range 300 {
		n := r.Intn(300)
		list := make([]string, n)
		for i := range list {
			list[i] = fmt.Sprint(r.Intn(100))
		}
		checkTwice(t, anyPermutation(r, n), anyPermutation(r, n), list)
	}
}

func checkTwice(t *testing.T, p, q []int, list []string) {
	t.Helper()
	once, e1 := perm.Apply(compose(p, q).List, list)
	byQ, e2 := perm.Apply(q, list)
	twice, e3 := perm.Apply(p, byQ)
	if !slices.Equal(once, twice) || e1 != api.OK || e2 != api.OK || e3 != api.OK {
		t.Errorf("%s, %s: at once %s, one by one %s, errors %d, %d, %d", brief(p), brief(q), brief(once), brief(twice), e1, e2, e3)
	}
	byP, e1 := perm.Apply(p, list)
	back, e2 := perm.Apply(inverse(p).List, byP)
	if !slices.Equal(back, list) || e1 != api.OK || e2 != api.OK {
		t.Errorf("%s and back: %s, errors %d, %d; want %s", brief(p), brief(back), e1, e2, brief(list))
	}
}

// anyList: n numbers without a rule: a permutation, one with a fault, draws, digits, or any.
func anyList(r *rand.Rand, n int) []int {
	p := anyPermutation(r, n)
	switch kind := r.Intn(6); {
	case n == 0 || kind < 2:
	case kind == 2:
		p[r.Intn(n)] = r.Intn(n+3) - 1
	case kind == 3:
		p[r.Intn(n)] = far[r.Intn(len(far))]
	case kind == 4:
		for i := range p {
			p[i] = r.Intn(n - i)
		}
	default:
		for i := range p {
			p[i] = r.Intn(n+2) - 1
		}
	}
	return p
}

// P11.1: arguments without a rule, held against the chapter's words.
func TestAnyArguments(t *testing.T) {
	r := rand.New(rand.NewSource(111))
	for range 20000 {
		n := r.Intn(12)
		p, q := anyList(r, n), anyList(r, n)
		checkOne(t, p)
		checkTwo(t, p, q)
		checkTwo(t, p, anyList(r, r.Intn(12)))
		checkFrom(t, n, p)
		if n > 0 {
			checkFrom(t, n, p[:n-1])
		}
		checkFrom(t, r.Intn(14)-2, q)
	}
	for range 100 {
		n := r.Intn(400)
		p, q := anyList(r, n), anyList(r, n)
		checkOne(t, p)
		checkTwo(t, p, q)
		checkFrom(t, n, p[:max(n-1, 0)])
	}
}

// P11.1: many things, there and back.
func TestMany(t *testing.T) {
	r := rand.New(rand.NewSource(115))
	const n = 100000
	p := anyPermutation(r, n)
	checkGroup(t, p)
	d := draws(p)
	if got := from(n, d.List); d.Err != api.OK || !got.same(answer{List: p}) {
		t.Errorf("From(Draws) of %d things: %v, error %d", n, got, d.Err)
	}
	p[n/3] = p[n/2]
	if e := perm.Check(p); e != api.ErrPerm {
		t.Errorf("one number of %d twice: error %d; want 110", n, e)
	}
	p = anyPermutation(r, 5000)
	digits := rank(p)
	if got := unrank(digits.List); digits.Err != api.OK || !got.same(answer{List: p}) {
		t.Errorf("Unrank(Rank) of %d things: %v, error %d", len(p), got, digits.Err)
	}
}

// calls: each call that takes one list or two and gives a list, of these two.
func calls(n int, p, q []int) map[string]func() ([]int, api.Errno) {
	return map[string]func() ([]int, api.Errno){
		"Compose": func() ([]int, api.Errno) { return perm.Compose(p, q) },
		"Apply":   func() ([]int, api.Errno) { return perm.Apply(p, q) },
		"Inverse": func() ([]int, api.Errno) { return perm.Inverse(p) },
		"From":    func() ([]int, api.Errno) { return perm.From(n, p) },
		"Draws":   func() ([]int, api.Errno) { return perm.Draws(p) },
		"Rank":    func() ([]int, api.Errno) { return perm.Rank(p) },
		"Unrank":  func() ([]int, api.Errno) { return perm.Unrank(p) },
		"Check":   func() ([]int, api.Errno) { return nil, perm.Check(p) },
	}
}

// Rule 5: what is handed in stays as it is, its spare room too, and what is answered is memory of its own.
func TestMemory(t *testing.T) {
	r := rand.New(rand.NewSource(116))
	pairs := [][2][]int{{nil, nil}, {{0}, {0}}, {counted(30), counted(30)}, {times(30, 0), counted(30)}, {times(29, 0), nil}, {{1, 1}, {0, 1}}, {{5, -3}, {0}}}
	for range 40 {
		n := r.Intn(30)
		pairs = append(pairs, [2][]int{anyList(r, n), anyPermutation(r, n)})
	}
	for _, pair := range pairs {
		p, allP := withRoom(pair[0], 99)
		q, allQ := withRoom(pair[1], 88)
		beforeP, beforeQ := slices.Clone(allP), slices.Clone(allQ)
		for _, n := range []int{len(p), len(p) + 1, -1} {
			for what, call := range calls(n, p, q) {
				first, e := call()
				want := answer{slices.Clone(first), e}
				second, _ := call()
				grown := append(first, 1, 2, 3)
				clear(first[:cap(first)])
				clear(grown)
				if got := (answer{second, e}); !got.same(want) {
					t.Errorf("%s of %v, %v: %v beside a changed answer; want %v", what, pair[0], pair[1], got, want)
				}
				clear(second[:cap(second)])
				if !slices.Equal(allP, beforeP) || !slices.Equal(allQ, beforeQ) {
					t.Fatalf("%s of %v, %v: what was handed in has changed", what, pair[0], pair[1])
				}
			}
		}
	}
}

// Rule 5: an answer is not changed by what becomes of the lists that were handed in, nor of the answers to other calls.
func TestAnswersStay(t *testing.T) {
	p, q := known[4].p, known[4].inverse
	for what := range calls(0, nil, nil) {
		a, b := slices.Clone(p), slices.Clone(q)
		got, e := calls(0, a, b)[what]()
		want := slices.Clone(got)
		clear(a)
		clear(b)
		for _, other := range calls(16, p, p) {
			list, _ := other()
			clear(list)
		}
		if !slices.Equal(got, want) {
			t.Errorf("%s: %v, error %d; want %v", what, got, e, want)
		}
	}
	first, second := perm.Identity(5), perm.Identity(5)
	clear(first)
	if !slices.Equal(second, counted(5)) || !slices.Equal(perm.Identity(5), counted(5)) {
		t.Error("Identity: two answers share memory")
	}
	first, second = perm.Bounds(5), perm.Bounds(5)
	clear(first)
	if !slices.Equal(second, drawBounds(5)) || !slices.Equal(perm.Bounds(5), drawBounds(5)) {
		t.Error("Bounds: two answers share memory")
	}
}

// Rule 5: lists of one memory are no matter.
func TestOneMemory(t *testing.T) {
	p := []int{3, 0, 2, 1, 4}
	checkTwo(t, p, p)
	long := []int{0, 1, 2, 0, 1}
	checkTwo(t, long[:3], long[2:])
	if !slices.Equal(long, []int{0, 1, 2, 0, 1}) || !slices.Equal(p, []int{3, 0, 2, 1, 4}) {
		t.Errorf("what was handed in has changed: %v, %v", long, p)
	}
}

// Rules 1 and 4: nil and empty are the same: the permutation of no things.
func TestNilIsEmpty(t *testing.T) {
	empties := [][]int{nil, {}, []int{3, 4}[1:1]}
	for _, p := range empties {
		for _, q := range empties {
			for what, call := range calls(0, p, q) {
				if list, e := call(); len(list) > 0 || e != api.OK {
					t.Errorf("%s of nothing: %v, error %d", what, list, e)
				}
			}
		}
		if got := from(1, p); !got.same(answer{List: []int{0}}) {
			t.Errorf("From(1, nothing) = %v", got)
		}
		if list, e := perm.Apply(p, []string(nil)); len(list) > 0 || e != api.OK {
			t.Errorf("Apply to nil: %v, error %d", list, e)
		}
		if list, e := perm.Apply(p, []string{"a"}); len(list) > 0 || e != api.ErrPerm {
			t.Errorf("Apply of nothing to one: %v, error %d", list, e)
		}
	}
}

// Rule 6: what is answered hangs on no call ahead of it; and many calls at one time answer what each would alone.
func TestManyAtOneTime(t *testing.T) {
	p, q := known[4].p, known[4].inverse
	var group sync.WaitGroup
	for caller := range 16 {
		group.Add(1)
		go func() {
			defer group.Done()
			for range 50 {
				checkOne(t, p)
				checkTwo(t, p, q)
				checkFrom(t, 16, known[4].draws)
				checkFrom(t, caller, nil)
				checkUnrank(t, known[4].digits)
			}
		}()
	}
	group.Wait()
}

func ExampleApply() {
	list, e := perm.Apply([]int{1, 2, 0}, []string{"a", "b", "c"})
	fmt.Println(list, int(e))
	_, e = perm.Apply([]int{1, 0}, []string{"a", "b", "c"})
	fmt.Println(e == api.ErrPerm)
	// Output:
	// [b c a] 0
	// true
}

func ExampleCompose() {
	p, e := perm.Compose([]int{1, 2, 0}, []int{0, 2, 1})
	fmt.Println(p, int(e))
	back, e := perm.Inverse(p)
	fmt.Println(back, int(e))
	// Output:
	// [2 1 0] 0
	// [2 1 0] 0
}
