package order_test

import (
	"bytes"
	"math"
	"math/rand"
	"runtime"
	"slices"
	"strconv"
	"testing"
	"weak"

	"churn/api"
	"churn/order"
)

// A cell is a struct of the kind that a round hands on: a number with a list.
type cell struct {
	Index int
	Bytes []byte
}

// bytesOf: a number's digits; those of 0 are none at all.
func bytesOf(x int) []byte {
	if x == 0 {
		return nil
	}
	return strconv.AppendInt(nil, int64(x), 10)
}

// ofBytes: the number again; -1 of digits that no number has.
func ofBytes(b []byte) int {
	if b == nil {
		return 0
	}
	x, err := strconv.Atoi(string(b))
	if err != nil || x == 0 {
		return -1
	}
	return x
}

func textOf(x int) string { return string(bytesOf(x)) }

func ofText(s string) int {
	if s == "" {
		return 0
	}
	return ofBytes([]byte(s))
}

func pointerTo(x int) *int {
	if x == 0 {
		return nil
	}
	return &x
}

func ofPointer(p *int) int {
	if p == nil {
		return 0
	}
	return *p
}

// checkKind: scripts, short ones and long ones, over buffers of things of one kind; number must give back what thing was given, and 0 of the zero thing.
func checkKind[T any](t *testing.T, what string, thing func(int) T, number func(T) int) {
	t.Helper()
	var zero T
	if number(zero) != 0 || number(thing(0)) != 0 || number(thing(77)) != 77 {
		t.Fatalf("%s: its numbers don't tell its things apart", what)
	}
	for _, script := range scripts("01n-", 6) {
		checkScript(t, what, dressed[T]{order.New[T](), thing, number}, &words{}, script)
	}
	r := rand.New(rand.NewSource(2030))
	for range 5 {
		checkCalls(t, what, dressed[T]{order.New[T](), thing, number}, &words{}, someCalls(r, 1000))
	}
	b := dressed[T]{order.New[T](), thing, number}
	for i, x := range []int{0, 5, 0} {
		if e := b.Put(2-i, x); e != api.OK {
			t.Errorf("%s: a put of %d: error %d", what, x, e)
		}
	}
	for _, want := range []int{0, 5, 0} {
		if x, is := b.Next(); x != want || !is {
			t.Errorf("%s, zero things among others: %d, %v; want %d", what, x, is, want)
		}
	}
}

// P20.1: buffers of texts, numbers of other kinds, bools, lists, arrays, structs, maps, pointers, functions, interfaces, and buffers.
func TestKinds(t *testing.T) {
	same := func(x int) int { return x }
	checkKind(t, "int", same, same)
	checkKind(t, "string", textOf, ofText)
	checkKind(t, "float64", func(x int) float64 { return float64(x) }, func(f float64) int { return int(f) })
	checkKind(t, "[]byte", bytesOf, ofBytes)
	checkKind(t, "[]string", func(x int) []string { return make([]string, x) }, func(l []string) int { return len(l) })
	checkKind(t, "[3]int", func(x int) [3]int { return [3]int{x, 2 * x, -x} }, func(a [3]int) int {
		if a[1] != 2*a[0] || a[2] != -a[0] {
			return -1
		}
		return a[0]
	})
	checkKind(t, "struct", func(x int) cell { return cell{x, bytesOf(x)} }, func(c cell) int {
		if ofBytes(c.Bytes) != c.Index {
			return -1
		}
		return c.Index
	})
	checkKind(t, "map", func(x int) map[string]int { return map[string]int{"x": x} }, func(m map[string]int) int { return m["x"] })
	checkKind(t, "pointer", pointerTo, ofPointer)
	checkKind(t, "function", func(x int) func() int { return func() int { return x } }, func(f func() int) int {
		if f == nil {
			return 0
		}
		return f()
	})
	checkKind(t, "interface", func(x int) error { return api.Errno(x) }, func(e error) int {
		if e == nil {
			return 0
		}
		return int(e.(api.Errno))
	})
	checkKind(t, "buffer", func(x int) *order.Buffer[int] {
		b := order.New[int]()
		b.Put(0, x)
		return b
	}, func(b *order.Buffer[int]) int {
		x, _ := b.Next()
		return x
	})
}

// P20.1: bools, false ones too, are items like others.
func TestBools(t *testing.T) {
	b := order.New[bool]()
	for i, x := range []bool{false, true, false} {
		if e := b.Put(i, x); e != api.OK {
			t.Errorf("Put(%d): error %d", i, e)
		}
		if e := b.Put(i, !x); e != api.ErrTwice {
			t.Errorf("Put(%d) again: error %d", i, e)
		}
	}
	for _, want := range []bool{false, true, false} {
		if x, is := b.Next(); x != want || !is {
			t.Errorf("Next = %v, %v", x, is)
		}
	}
	if x, is := b.Next(); x || is {
		t.Errorf("behind all: %v, %v", x, is)
	}
}

// P20.1: things without any bytes are counted like others.
func TestThingsWithoutBytes(t *testing.T) {
	b := order.New[struct{}]()
	for i := range 1000 {
		if e := b.Put(999-i, struct{}{}); e != api.OK || b.Held() != i+1 {
			t.Errorf("Put(%d): error %d, Held %d", 999-i, e, b.Held())
		}
	}
	for i := range 1000 {
		if _, is := b.Next(); !is || b.Held() != 999-i || b.At() != i+1 {
			t.Errorf("Next %d: %v, Held %d", i, is, b.Held())
		}
	}
	if _, is := b.Next(); is {
		t.Errorf("behind all there is one more")
	}
}

// P20.1: things that aren't equal to themselves, or can't be held against each other, are given out all the same.
func TestThingsThatCannotBeCompared(t *testing.T) {
	floats := order.New[float64]()
	floats.Put(1, math.Copysign(0, -1))
	floats.Put(0, math.NaN())
	if x, is := floats.Next(); !is || !math.IsNaN(x) {
		t.Errorf("given out %v, %v; want NaN", x, is)
	}
	if x, is := floats.Next(); !is || x != 0 || !math.Signbit(x) {
		t.Errorf("given out %v, %v; want -0", x, is)
	}
	anything := order.New[any]()
	for i, x := range []any{map[string]int{"b": 1}, "a", nil, []int{1, 2}} {
		anything.Put(3-i, x)
	}
	if x, is := anything.Next(); !is || !slices.Equal(x.([]int), []int{1, 2}) {
		t.Errorf("given out %v, %v; want 1 2", x, is)
	}
	if x, is := anything.Next(); !is || x != nil {
		t.Errorf("given out %v, %v; want nil", x, is)
	}
	if x, is := anything.Next(); !is || x != "a" {
		t.Errorf("given out %v, %v; want a", x, is)
	}
	if x, is := anything.Next(); !is || x.(map[string]int)["b"] != 1 {
		t.Errorf("given out %v, %v; want a map", x, is)
	}
}

// Rule 3: beside a false the thing answered is the zero one of its kind, whatever went through the buffer ahead of that.
func TestBesideFalse(t *testing.T) {
	checkZero(t, "x", func(s string) bool { return s == "" })
	checkZero(t, 7, func(x int) bool { return x == 0 })
	checkZero(t, true, func(x bool) bool { return !x })
	checkZero(t, []byte("x"), func(b []byte) bool { return b == nil })
	checkZero(t, [2]string{"x", "y"}, func(a [2]string) bool { return a == [2]string{} })
	checkZero(t, cell{3, []byte("x")}, func(c cell) bool { return c.Index == 0 && c.Bytes == nil })
	checkZero(t, new(int), func(p *int) bool { return p == nil })
	checkZero(t, any("x"), func(x any) bool { return x == nil })
	checkZero(t, func() {}, func(f func()) bool { return f == nil })
}

func checkZero[T any](t *testing.T, x T, isZero func(T) bool) {
	t.Helper()
	check := func(b *order.Buffer[T], what string) {
		t.Helper()
		if got, is := b.Next(); is || !isZero(got) {
			t.Errorf("%T, %s: Next = %v, %v; want the zero thing, false", b, what, got, is)
		}
	}
	check(nil, "nil")
	b := order.New[T]()
	check(b, "new")
	for i := range 5 {
		b.Put(2*i+1, x)
		check(b, "only a later one waits")
		b.Put(2*i, x)
		b.Next()
		b.Next()
		check(b, "all given out")
		b.Put(2*i, x)
		check(b, "a put was refused")
	}
}

// Rule 5: a struct or an array that was put is the buffer's own copy: what becomes of the one that was handed in, or of one that was given out, doesn't show.
func TestValuesAreCopies(t *testing.T) {
	b := order.New[[2]int]()
	moving := [2]int{}
	for i := range 4 {
		moving[0], moving[1] = 3-i, i-3
		b.Put(3-i, moving)
	}
	moving = [2]int{99, 99}
	for i := range 4 {
		got, is := b.Next()
		if !is || got != [2]int{i, -i} {
			t.Errorf("Next %d: %v, %v", i, got, is)
		}
		got[0] = 99
	}
	b.Put(4, moving)
	if got, _ := b.Next(); got != moving {
		t.Errorf("given out %v; want %v", got, moving)
	}
}

// Rule 5: a list that was put isn't changed, its spare room included, and the list given out is the one that was put.
func TestListsStay(t *testing.T) {
	const n = 40
	b := order.New[[]byte]()
	whole := func(i int) []byte { return bytes.Repeat([]byte{byte('A' + i)}, 12) }
	var all [n][]byte
	for i := range n {
		all[i] = whole(i)
		b.Put(n-1-i, all[i][3:8])
		b.Put(n-1-i, []byte("later"))
	}
	for i := n - 1; i >= 0; i-- {
		x, is := b.Next()
		if !is || !bytes.Equal(x, whole(i)[:5]) || !bytes.Equal(all[i], whole(i)) {
			t.Errorf("list %d: %q, %v in %q", i, x, is, all[i])
		}
	}
}

// alive: how many of the things are still in memory; more than so many are given some time to be let go.
func alive(list []weak.Pointer[[64]int], most int) (n int) {
	for range 10 {
		runtime.GC()
		n = 0
		for _, p := range list {
			if p.Value() != nil {
				n++
			}
		}
		if n <= most {
			break
		}
	}
	return n
}

// Rule 6: of what was given out, and of what was refused, the buffer keeps nothing; what waits it keeps.
func TestNothingIsKept(t *testing.T) {
	for _, wait := range []int{0, 1, 2, 8, 100} {
		b := order.New[*[64]int]()
		var past []weak.Pointer[[64]int]
		for i := range 120 {
			for _, number := range []int{i, i, i / 2, -1 - i} {
				x := new([64]int)
				past = append(past, weak.Make(x))
				b.Put(number, x)
			}
			if b.Held() > wait {
				b.Next()
			}
		}
		if kept := alive(past, b.Held()); kept != b.Held() {
			t.Errorf("it keeps %d of what went by, and %d wait", kept, b.Held())
		}
		runtime.KeepAlive(b)
	}
}
