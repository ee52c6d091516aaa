package duct_test

import (
	"bytes"
	"math"
	"math/rand"
	"runtime"
	"slices"
	"strconv"
	"testing"
	"weak"

	"churn/api"
	"churn/duct"
)

// A cell is a struct of the kind that a round hands on: a number with a list.
type cell struct {
	Index int
	Bytes []byte
}

// digits: a number's digits; those of 0 are none at all.
func digits(x int) []byte {
	if x == 0 {
		return nil
	}
	return strconv.AppendInt(nil, int64(x), 10)
}

// ofDigits: the number again; -1 of digits that no number has.
func ofDigits(b []byte) int {
	if b == nil {
		return 0
	}
	x, err := strconv.Atoi(string(b))
	if err != nil || x == 0 {
		return -1
	}
	return x
}

// checkKind: scripts, short ones and long ones, over ducts of things of one kind; number must give back what thing was given, and 0 of the zero thing.
func checkKind[T any](t *testing.T, what string, thing func(int) T, number func(T) int) {
	t.Helper()
	var zero T
	if number(zero) != 0 || number(thing(0)) != 0 || number(thing(77)) != 77 {
		t.Fatalf("%s: its numbers don't tell its things apart", what)
	}
	r := rand.New(rand.NewSource(1830))
	list := append(scripts("ptc", 6), someScript(r, 3000, 50)+"cptt", someScript(r, 3000, 60)+"ct")
	for _, capacity := range []int{0, 1, 2, 3, 50} {
		for _, script := range list {
			d := dressed[T]{made[T](t, capacity), thing, number}
			checkScript(t, what+", "+named(capacity, script), d, &words{capacity: capacity}, script)
		}
	}
	d := dressed[T]{made[T](t, 3), thing, number}
	for _, x := range []int{0, 5, 0} {
		if got := do(d, 'p', x); got != (said{Is: true}) {
			t.Errorf("%s: a put of %d: %+v", what, x, got)
		}
	}
	checkTakes(t, what+", zero things among others", d, 0, 5, 0)
}

// P18.1: ducts of texts, numbers of other kinds, lists, arrays, structs, maps, pointers, functions, interfaces, and ducts.
func TestKinds(t *testing.T) {
	same := func(x int) int { return x }
	checkKind(t, "int", same, same)
	checkKind(t, "string", func(x int) string { return string(digits(x)) }, func(s string) int { return ofDigits(append([]byte(nil), s...)) })
	checkKind(t, "float64", func(x int) float64 { return float64(x) }, func(f float64) int { return int(f) })
	checkKind(t, "[]byte", digits, ofDigits)
	checkKind(t, "[]string", func(x int) []string { return make([]string, x) }, func(l []string) int { return len(l) })
	checkKind(t, "[3]int", func(x int) [3]int { return [3]int{x, 2 * x, -x} }, func(a [3]int) int {
		if a[1] != 2*a[0] || a[2] != -a[0] {
			return -1
		}
		return a[0]
	})
	checkKind(t, "struct", func(x int) cell { return cell{x, digits(x)} }, func(c cell) int {
		if ofDigits(c.Bytes) != c.Index {
			return -1
		}
		return c.Index
	})
	checkKind(t, "map", func(x int) map[string]int { return map[string]int{"x": x} }, func(m map[string]int) int { return m["x"] })
	checkKind(t, "pointer", func(x int) *cell { return &cell{x, nil} }, func(c *cell) int {
		if c == nil {
			return 0
		}
		return c.Index
	})
	checkKind(t, "function", func(x int) func() int { return func() int { return x } }, func(f func() int) int {
		if f == nil {
			return 0
		}
		return f()
	})
	checkKind(t, "interface", func(x int) error { return api.Errno(x) }, func(e error) int {
		if e == nil {
			return 0
		}
		return int(e.(api.Errno))
	})
	checkKind(t, "duct", func(x int) *duct.Duct[int] {
		d := made[int](t, 1)
		putAll(t, d, x)
		return d
	}, func(d *duct.Duct[int]) int {
		x, _, _ := d.Take()
		return x
	})
}

// P18.1: things without any bytes are counted like others.
func TestThingsWithoutBytes(t *testing.T) {
	d := made[struct{}](t, 1000)
	putAll(t, d, make([]struct{}, 1000)...)
	if is, e := d.Put(struct{}{}); is || e != api.OK || d.Len() != 1000 {
		t.Errorf("a put on a full duct: %v, error %d, Len %d", is, e, d.Len())
	}
	for i := range 1000 {
		if _, is, e := d.Take(); !is || e != api.OK || d.Len() != 999-i {
			t.Errorf("take %d: %v, error %d, Len %d", i, is, e, d.Len())
		}
	}
	if _, is, e := d.Take(); is || e != api.OK {
		t.Errorf("a take of an empty duct: %v, error %d", is, e)
	}
}

// P18.1: things that aren't equal to themselves, or can't be held against each other, are handed on all the same.
func TestThingsThatCannotBeCompared(t *testing.T) {
	floats := made[float64](t, 2)
	putAll(t, floats, math.NaN(), math.Copysign(0, -1))
	if x, is, _ := floats.Take(); !is || !math.IsNaN(x) {
		t.Errorf("took %v, %v; want NaN", x, is)
	}
	if x, is, _ := floats.Take(); !is || x != 0 || !math.Signbit(x) {
		t.Errorf("took %v, %v; want -0", x, is)
	}
	anything := made[any](t, 4)
	putAll[any](t, anything, []int{1, 2}, nil, "a", map[string]int{"b": 1})
	if x, is, _ := anything.Take(); !is || !slices.Equal(x.([]int), []int{1, 2}) {
		t.Errorf("took %v, %v; want 1 2", x, is)
	}
	if x, is, _ := anything.Take(); !is || x != nil {
		t.Errorf("took %v, %v; want nil", x, is)
	}
	if x, is, _ := anything.Take(); !is || x != "a" {
		t.Errorf("took %v, %v; want a", x, is)
	}
	if x, is, _ := anything.Take(); !is || x.(map[string]int)["b"] != 1 {
		t.Errorf("took %v, %v; want a map", x, is)
	}
}

// P18.1: a pointer that is taken is the one that was put.
func TestPointersAreHandedOn(t *testing.T) {
	d := made[*int](t, 5)
	var put []*int
	for i := range 200 {
		x := new(int)
		put = append(put, x)
		putAll(t, d, x)
		if i >= 4 {
			if got, is, e := d.Take(); got != put[i-4] || !is || e != api.OK {
				t.Errorf("take %d gives another pointer", i-4)
			}
		}
	}
}

// Rule 3: beside a false or an error the thing answered is the zero one of its kind, whatever went through the duct ahead of that.
func TestBesideRefusals(t *testing.T) {
	checkZero(t, "x", func(s string) bool { return s == "" })
	checkZero(t, 7, func(x int) bool { return x == 0 })
	checkZero(t, []byte("x"), func(b []byte) bool { return b == nil })
	checkZero(t, [2]string{"x", "y"}, func(a [2]string) bool { return a == [2]string{} })
	checkZero(t, cell{3, []byte("x")}, func(c cell) bool { return c.Index == 0 && c.Bytes == nil })
	checkZero(t, new(int), func(p *int) bool { return p == nil })
	checkZero(t, any("x"), func(x any) bool { return x == nil })
	checkZero(t, func() {}, func(f func()) bool { return f == nil })
}

func checkZero[T any](t *testing.T, x T, isZero func(T) bool) {
	t.Helper()
	check := func(d *duct.Duct[T], what string, want api.Errno) {
		t.Helper()
		if got, is, e := d.Take(); is || e != want || !isZero(got) {
			t.Errorf("%T, %s: Take = %v, %v, error %d; want the zero thing, false, error %d", d, what, got, is, e, want)
		}
	}
	check(nil, "nil", api.ErrClosed)
	for _, capacity := range []int{0, 1, 2, 3, 1024} {
		d := made[T](t, capacity)
		check(d, "new", api.OK)
		for range 5 {
			for is, _ := d.Put(x); is; is, _ = d.Put(x) {
			}
			for d.CanTake() {
				d.Take()
			}
			check(d, "emptied", api.OK)
		}
		d.Put(x)
		d.Close()
		d.Take()
		check(d, "closed and empty", api.ErrClosed)
	}
}

// Rule 5: a struct or an array that was put is the duct's own copy: what becomes of the one that was handed in, or of one that was taken, doesn't show.
func TestValuesAreCopies(t *testing.T) {
	d := made[[2]int](t, 4)
	moving := [2]int{}
	for i := range 4 {
		moving[0], moving[1] = i, -i
		putAll(t, d, moving)
	}
	moving = [2]int{99, 99}
	for i := range 4 {
		got, is, _ := d.Take()
		if !is || got != [2]int{i, -i} {
			t.Errorf("take %d: %v, %v", i, got, is)
		}
		got[0] = 99
	}
	putAll(t, d, moving)
	if got, _, _ := d.Take(); got != moving {
		t.Errorf("took %v; want %v", got, moving)
	}
}

// Rule 5: a list that was put isn't changed, its spare room included, neither by its own way through the duct nor by others'.
func TestListsStay(t *testing.T) {
	const n = 40
	d := made[[]byte](t, 7)
	var all [n][]byte
	held := func(i int) []byte { return bytes.Repeat([]byte{byte('A' + i)}, 12) }
	var taken [][]byte
	for i := range n {
		all[i] = held(i)
		for {
			if is, _ := d.Put(all[i][3:8]); is {
				break
			}
			x, _, _ := d.Take()
			taken = append(taken, x)
		}
	}
	d.Close()
	for d.CanTake() {
		x, _, _ := d.Take()
		taken = append(taken, x)
	}
	if len(taken) != n {
		t.Fatalf("%d lists were taken", len(taken))
	}
	for i := range n {
		if !bytes.Equal(all[i], held(i)) || !bytes.Equal(taken[i], held(i)[:5]) {
			t.Errorf("list %d: %q in %q", i, taken[i], all[i])
		}
	}
}

// alive: how many of the things are still in memory; more than so many are given some time to be let go.
func alive(list []weak.Pointer[[64]int], most int) (n int) {
	for range 10 {
		runtime.GC()
		n = 0
		for _, p := range list {
			if p.Value() != nil {
				n++
			}
		}
		if n <= most {
			break
		}
	}
	return n
}

// Rule 6: of what was taken, and of what was refused, the duct keeps nothing, however its things stand.
func TestNothingIsKept(t *testing.T) {
	for _, capacity := range []int{0, 1, 2, 3, 8, 1024} {
		for _, held := range []int{0, 1, 2, 3, 8} {
			d := made[*[64]int](t, capacity)
			var past []weak.Pointer[[64]int]
			for range 20 {
				x := new([64]int)
				past = append(past, weak.Make(x))
				d.Put(x)
				if d.Len() > min(held, capacity) {
					d.Take()
				}
			}
			if kept := alive(past, d.Len()); kept != d.Len() {
				t.Errorf("capacity %d: it keeps %d of what went by, and holds %d", capacity, kept, d.Len())
			}
			runtime.KeepAlive(d)
		}
	}
}
