package braid_test

import (
	"bytes"
	"fmt"
	"math"
	"math/rand"
	"slices"
	"testing"

	"churn/api"
	"churn/braid"
)

// cut: a list cut into chunks of these sizes.
func cut[T any](list []T, sizes []int) [][]T {
	var out [][]T
	for _, s := range sizes {
		out = append(out, list[:s])
		list = list[s:]
	}
	return out
}

// numbered: n things, each with a number of its own.
func numbered(n int) []int {
	var out []int
	for i := range n {
		out = append(out, 1000+i)
	}
	return out
}

// P12.2: every list of chunk numbers, in reach or one outside, with chunks of each small size.
func TestEveryWeave(t *testing.T) {
	for c := range 4 {
		for _, s := range lists(times(c, 4)) {
			chunks := cut(numbered(total(s)), s)
			for n := range 5 {
				for _, chunk := range listsFrom(-1, c, n) {
					checkWeave(t, chunk, chunks)
				}
			}
		}
	}
}

// checkWoven: all things stand there once, and each chunk's in their order.
func checkWoven(t *testing.T, s, chunk []int) {
	t.Helper()
	list := numbered(total(s))
	chunks := cut(list, s)
	got, e := braid.Weave(chunk, chunks)
	if e != api.OK || !slices.Equal(slices.Sorted(slices.Values(got)), list) {
		t.Errorf("Weave(%s, ..) = %s, error %d", brief(chunk), brief(got), e)
		return
	}
	for j := range chunks {
		var of []int
		for i, thing := range got {
			if chunk[i] == j {
				of = append(of, thing)
			}
		}
		if !slices.Equal(of, chunks[j]) {
			t.Errorf("Weave(%s, ..): chunk %d's things are %s; want %s", brief(chunk), j, brief(of), brief(chunks[j]))
		}
	}
}

// P12.2: cut by Sizes and woven by the pattern of any draws all things stand there once, each chunk's in their order.
func TestCutAndWoven(t *testing.T) {
	r := rand.New(rand.NewSource(1211))
	for n := range 7 {
		for chunks := 1; chunks < 9; chunks++ {
			s := sizes(n, chunks).List
			for _, d := range lists(falling(n)) {
				checkWoven(t, s, pattern(s, d).Chunk)
			}
		}
	}
	for n := range 257 {
		for _, chunks := range []int{1, 2, 1 + r.Intn(64), 64} {
			s := sizes(n, chunks).List
			checkWoven(t, s, pattern(s, below(r, braid.Bounds(n))).Chunk)
		}
	}
}

// P12.2: every order of small lists that keeps each chunk's things in their order comes out of one pattern, and no other does.
func TestEachPatternItsOrder(t *testing.T) {
	for _, s := range smallSizes(3, 6) {
		orders, count := map[string]int{}, 0
		for _, chunk := range lists(times(total(s), len(s))) {
			if !isPattern(s, chunk) {
				continue
			}
			count++
			checkWoven(t, s, chunk)
			got, _ := braid.Weave(chunk, cut(numbered(total(s)), s))
			orders[fmt.Sprint(got)]++
		}
		if patterns, _ := ways(s); len(orders) != patterns || count != patterns {
			t.Errorf("%v: %d orders of %d patterns; want %d", s, len(orders), count, patterns)
		}
	}
}

// P12.2: one place with a number that is no place of chunks, or with another's, which then stands too often and its own too seldom; at each place.
func TestNoWeave(t *testing.T) {
	r := rand.New(rand.NewSource(1212))
	for _, s := range [][]int{{1}, {3}, {2, 1}, {0, 3, 0, 2}, {1, 1, 1, 1}, {4, 4, 4, 3}, times(100, 3)} {
		chunk, chunks := anyPattern(r, s), cut(numbered(total(s)), s)
		checkWoven(t, s, chunk)
		refuse := func(what string, chunk []int, chunks [][]int) {
			if got, e := braid.Weave(chunk, chunks); len(got) > 0 || e != api.ErrArg {
				t.Errorf("Weave(%s, %s), %s: %s, error %d; want error 2", brief(chunk), brief(chunks), what, brief(got), e)
			}
		}
		for i, j := range chunk {
			for _, v := range append([]int{-1, len(s), len(s) + 1, j - len(s), j + len(s)}, far...) {
				refuse("a number outside", with(chunk, i, v), chunks)
			}
			for other := range s {
				if other != j {
					refuse("another chunk's number", with(chunk, i, other), chunks)
				}
			}
			refuse("a place too few", slices.Delete(slices.Clone(chunk), i, i+1), chunks)
		}
		for j := range s {
			refuse("a place too many", append(slices.Clone(chunk), j), chunks)
			refuse("a place too many ahead", append([]int{j}, chunk...), chunks)
			more := slices.Clone(chunks)
			more[j] = append(slices.Clone(more[j]), 7)
			refuse("a thing too many", chunk, more)
			if s[j] > 0 {
				more[j] = chunks[j][1:]
				refuse("a thing too few", chunk, more)
				refuse("a chunk too few", chunk, slices.Delete(slices.Clone(chunks), j, j+1))
			}
		}
		refuse("no chunks", chunk, nil)
		refuse("no pattern", nil, chunks)
		refuse("a chunk too many", chunk, append(slices.Clone(chunks), []int{7}))
	}
	for _, v := range append([]int{0, 1}, far...) {
		for _, chunks := range [][][]string{nil, {}, {nil}, {{}}, {{"a", "b"}}, {nil, nil}} {
			if got, e := braid.Weave([]int{v}, chunks); len(got) > 0 || e != api.ErrArg {
				t.Errorf("Weave(%d, %v) = %v, error %d; want error 2", v, chunks, got, e)
			}
		}
	}
}

// P12.2: chunks of no things are no matter, wherever they stand; chunks may be none, if the pattern is.
func TestChunksOfNothing(t *testing.T) {
	for _, chunks := range [][][]string{nil, {}, {nil}, {{}}, {nil, {}, nil}, make([][]string, 1000)} {
		if got, e := braid.Weave(nil, chunks); len(got) > 0 || e != api.OK {
			t.Errorf("Weave(nothing, %s) = %v, error %d", brief(chunks), got, e)
		}
	}
	got, e := braid.Weave([]int{4, 1, 1, 4, 1}, [][]string{nil, {"a", "b", "c"}, {}, nil, {"d", "e"}, {}})
	if !slices.Equal(got, []string{"d", "a", "b", "e", "c"}) || e != api.OK {
		t.Errorf("Weave with chunks of nothing: %v, error %d", got, e)
	}
	if got, e := braid.Weave([]int{4, 1, 1, 4, 0}, [][]string{nil, {"a", "b", "c"}, {}, nil, {"d", "e"}, {}}); len(got) > 0 || e != api.ErrArg {
		t.Errorf("Weave from a chunk of nothing: %v, error %d", got, e)
	}
}

// P12.2: Weave has no limit: more chunks than MaxChunks, and more things than MaxBatch.
func TestManyWoven(t *testing.T) {
	r := rand.New(rand.NewSource(1213))
	for _, s := range [][]int{times(65, 1), {257}, {256, 1}, times(1000, 0), times(1000, 3), anySizes(r, 300, 20000), {100000, 100000}} {
		checkWoven(t, s, inOrder(s))
		if len(s) > 300 {
			continue
		}
		chunk := anyPattern(r, s)
		checkWoven(t, s, chunk)
		checkWeave(t, chunk, cut(numbered(total(s)), s))
	}
	// So many things that take no room are soon counted.
	huge := make([]struct{}, 1<<30)
	for _, chunk := range [][]int{nil, {0}, {0, 0}, {1}, {0, 1}} {
		if got, e := braid.Weave(chunk, [][]struct{}{huge, huge[:1]}); len(got) > 0 || e != api.ErrArg {
			t.Errorf("Weave(%v, very many) = %d things, error %d; want error 2", chunk, len(got), e)
		}
	}
}

// A thing has parts of several kinds.
type thing struct {
	name string
	at   [2]int
	data []byte
}

// P12.2: things of other types: texts, bytes, numbers, bools, pointers, interface values, arrays, things of no size.
func TestOtherTypes(t *testing.T) {
	one, two, three := 1, 2, 3
	for _, chunk := range append(listsFrom(-1, 2, 3), nil, []int{0}, []int{1, 1}, []int{0, 1, 0, 1}) {
		checkWeave(t, chunk, [][]string{{"", "b"}, {"three"}})
		checkWeave(t, chunk, [][]byte{{0}, {255, 7}})
		checkWeave(t, chunk, [][]bool{{true, false}, {true}})
		checkWeave(t, chunk, [][]float64{{0.5}, {-1, math.Inf(1)}})
		checkWeave(t, chunk, [][]*int{{&one, nil}, {&three}})
		checkWeave(t, chunk, [][]*int{{&two}, {&two, &two}})
		checkWeave(t, chunk, [][]any{{1, "two"}, {nil}})
		checkWeave(t, chunk, [][]error{{api.ErrArg}, {nil, api.ErrPerm}})
		checkWeave(t, chunk, [][][2]int{{{1, 2}, {3, 4}}, {{5, 6}}})
		checkWeave(t, chunk, [][]struct{}{{{}, {}}, {{}}})
	}
	called := ""
	steps := [][]func(){{func() { called += "a" }, func() { called += "b" }}, {func() { called += "c" }}}
	woven, e := braid.Weave([]int{0, 1, 0}, steps)
	if e != api.OK || len(woven) != 3 {
		t.Fatalf("Weave of functions: %d of them, error %d", len(woven), e)
	}
	for _, step := range woven {
		step()
	}
	if called != "acb" {
		t.Errorf("Weave of functions: called %s; want acb", called)
	}
}

// P12.2: things are handed on as they are: what they point to is the same memory.
func TestThingsAsTheyAre(t *testing.T) {
	chunks := [][][]byte{{{1}, nil}, {{2, 3}, {}}}
	got, e := braid.Weave([]int{1, 0, 1, 0}, chunks)
	if e != api.OK || len(got) != 4 || &got[0][0] != &chunks[1][0][0] || &got[1][0] != &chunks[0][0][0] || got[2] == nil || len(got[2]) > 0 || got[3] != nil {
		t.Errorf("Weave of lists: %v, error %d", got, e)
	}
	things := [][]thing{{{"a", [2]int{1, 2}, []byte("x")}}, {{"b", [2]int{3, 4}, nil}}}
	turned, e := braid.Weave([]int{1, 0}, things)
	if e != api.OK || len(turned) != 2 || turned[0].name != "b" || turned[0].at != [2]int{3, 4} || turned[0].data != nil ||
		turned[1].name != "a" || turned[1].at != [2]int{1, 2} || !bytes.Equal(turned[1].data, []byte("x")) {
		t.Errorf("Weave of structs: %v, error %d", turned, e)
	}
}

// P12.2: the same list as two chunks is gone through twice.
func TestOneListTwice(t *testing.T) {
	list := []string{"a", "b"}
	got, e := braid.Weave([]int{0, 1, 1, 0}, [][]string{list, list})
	if !slices.Equal(got, []string{"a", "a", "b", "b"}) || e != api.OK {
		t.Errorf("Weave of one list twice: %v, error %d", got, e)
	}
}

// Rule 5: the chunks stay as they are, their things and all spare room too, and what is woven is memory of its own.
func TestMemoryOfChunks(t *testing.T) {
	for _, chunk := range [][]int{{1, 0, 0, 2, 1}, {0, 0, 1, 1, 2}, {1}, {0, 0, 1, 1, 3}, {0, 0, 1, 1, 2, 2}, nil} {
		list, all := withRoom([]string{"a", "b", "c", "d", "e"}, "spare")
		chunks, outer := withRoom(cut(list, []int{2, 2, 1}), []string{"spare"})
		beforeAll, beforeOuter := slices.Clone(all), slices.Clone(outer)
		first, e := braid.Weave(chunk, chunks)
		want := slices.Clone(first)
		second, _ := braid.Weave(chunk, chunks)
		grown := append(first, "new", "new")
		clear(first[:cap(first)])
		clear(grown)
		if !slices.Equal(second, want) {
			t.Errorf("Weave(%v, ..) = %v, error %d beside a changed answer; want %v", chunk, second, e, want)
		}
		if !slices.Equal(all, beforeAll) || !slices.EqualFunc(outer, beforeOuter, sameList) {
			t.Errorf("Weave(%v, ..): what was handed in has changed: %v", chunk, all)
		}
		clear(all)
		clear(outer)
		if !slices.Equal(second, want) {
			t.Errorf("Weave(%v, ..) = %v behind changed chunks; want %v", chunk, second, want)
		}
	}
}

// sameList: the same memory, length and spare room.
func sameList(a, b []string) bool {
	return len(a) == len(b) && cap(a) == cap(b) && &a[:1][0] == &b[:1][0]
}

func ExampleWeave() {
	list, e := braid.Weave([]int{1, 0, 0}, [][]string{{"a", "b"}, {"c"}})
	fmt.Println(list, int(e))
	_, e = braid.Weave([]int{1, 0}, [][]string{{"a", "b"}, {"c"}})
	fmt.Println(e == api.ErrArg)
	// Output:
	// [c a b] 0
	// true
}
