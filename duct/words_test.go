package duct_test

import (
	"fmt"
	"math"
	"slices"
	"testing"

	"churn/api"
	"churn/duct"
)

// A queue is what a duct of numbers is asked. Ducts of other things are asked through a dressed, and the chapter's words through a words.
type queue interface {
	CanPut() bool
	CanTake() bool
	Put(x int) (bool, api.Errno)
	Take() (int, bool, api.Errno)
	Close() api.Errno
	Len() int
	Cap() int
	Closed() bool
}

// A dressed is a duct of any things that is asked with numbers: number 0 is the zero thing.
type dressed[T any] struct {
	*duct.Duct[T]
	thing  func(int) T
	number func(T) int
}

func (d dressed[T]) Put(x int) (bool, api.Errno) { return d.Duct.Put(d.thing(x)) }

func (d dressed[T]) Take() (int, bool, api.Errno) {
	x, is, e := d.Duct.Take()
	return d.number(x), is, e
}

// A words is a duct by the words of the chapter, over a list that is made anew with each call.
type words struct {
	capacity int
	things   []int
	closed   bool
}

// noDuct: a nil duct, by the words.
func noDuct() *words { return &words{closed: true} }

func (w *words) CanPut() bool  { return !w.closed && len(w.things) < w.capacity }
func (w *words) CanTake() bool { return len(w.things) != 0 }
func (w *words) Len() int      { return len(w.things) }
func (w *words) Cap() int      { return w.capacity }
func (w *words) Closed() bool  { return w.closed }

func (w *words) Put(x int) (bool, api.Errno) {
	switch {
	case w.closed:
		return false, 180
	case len(w.things) == w.capacity:
		return false, 0
	}
	w.things = slices.Concat(w.things, []int{x})
	return true, 0
}

func (w *words) Take() (int, bool, api.Errno) {
	switch {
	case len(w.things) > 0:
		x := w.things[0]
		w.things = slices.Clone(w.things[1:])
		return x, true, 0
	case w.closed:
		return 0, false, 180
	}
	return 0, false, 0
}

func (w *words) Close() api.Errno {
	if w.closed {
		return 180
	}
	w.closed = true
	return 0
}

// A told is what a duct tells of itself.
type told struct {
	CanPut, CanTake, Closed bool
	Len, Cap                int
}

func tells(q queue) told {
	return told{CanPut: q.CanPut(), CanTake: q.CanTake(), Closed: q.Closed(), Len: q.Len(), Cap: q.Cap()}
}

// A said is what a call answers: X of a take alone, Is of a put or a take.
type said struct {
	X   int
	Is  bool
	Err api.Errno
}

// refusal: whether the call came to nothing.
func (s said) refusal(letter byte) bool { return s.Err != 0 || letter != 'c' && !s.Is }

// do: one call, by its letter: p puts x, t takes, c closes.
func do(q queue, letter byte, x int) (s said) {
	switch letter {
	case 'p':
		s.Is, s.Err = q.Put(x)
	case 't':
		s.X, s.Is, s.Err = q.Take()
	case 'c':
		s.Err = q.Close()
	default:
		panic("no call has the letter " + string(letter))
	}
	return s
}

// An answer is what a call answers, and what the duct tells of itself behind it.
type answer struct {
	Said said
	Told told
}

// run: a script of calls, each by its letter; the put at place i puts i + 1.
func run(q queue, script string) (out []answer) {
	for i := range len(script) {
		s := do(q, script[i], i+1)
		out = append(out, answer{s, tells(q)})
	}
	return out
}

// checkScript: whether a duct answers a script as the words say, ahead of the first call and behind each.
func checkScript(t testing.TB, what string, got, want queue, script string) {
	t.Helper()
	if g, w := tells(got), tells(want); g != w {
		t.Errorf("%s: it tells %+v; want %+v", what, g, w)
	}
	for i := range len(script) {
		gs, ws := do(got, script[i], i+1), do(want, script[i], i+1)
		if gt, wt := tells(got), tells(want); gs != ws || gt != wt {
			t.Fatalf("%s: call %d, behind %q: %+v, and it tells %+v; want %+v, %+v", what, i, script[max(0, i-80):i], gs, gt, ws, wt)
		}
	}
}

// made: an empty duct; the test ends if there is none.
func made[T any](t testing.TB, capacity int) *duct.Duct[T] {
	t.Helper()
	d, e := duct.New[T](capacity)
	if d == nil || e != api.OK {
		t.Fatalf("New(%d) = %v, error %d", capacity, d, e)
	}
	return d
}

// putAll: puts that all must go through.
func putAll[T any](t testing.TB, d *duct.Duct[T], list ...T) {
	t.Helper()
	for i, x := range list {
		if is, e := d.Put(x); !is || e != api.OK {
			t.Fatalf("put %d of %d: %v, error %d", i, len(list), is, e)
		}
	}
}

// checkTakes: whether a duct gives out these numbers, and then no more.
func checkTakes(t testing.TB, what string, q queue, want ...int) {
	t.Helper()
	for i, x := range want {
		if got := do(q, 't', 0); got != (said{X: x, Is: true}) {
			t.Errorf("%s: take %d: %+v; want %d", what, i, got, x)
		}
	}
	last := said{}
	if q.Closed() {
		last.Err = api.ErrClosed
	}
	if got := do(q, 't', 0); got != last || q.Len() != 0 || q.CanTake() {
		t.Errorf("%s: behind all that it held: %+v, Len %d; want %+v", what, got, q.Len(), last)
	}
}

// upTo: the numbers from first to last.
func upTo(first, last int) (list []int) {
	for x := first; x <= last; x++ {
		list = append(list, x)
	}
	return list
}

// scripts: all scripts of at most so many of the letters.
func scripts(letters string, most int) []string {
	out := []string{""}
	for from := 0; most > 0; most-- {
		end := len(out)
		for _, s := range out[from:end] {
			for _, l := range letters {
				out = append(out, s+string(l))
			}
		}
		from = end
	}
	return out
}

func named(capacity int, script string) string {
	return fmt.Sprintf("capacity %d, script %q", capacity, script[:min(len(script), 80)])
}

// outside: numbers that are no capacity, those among them that would be if they were cut to fewer bits or their sign left out.
var outside = []int{-1, -2, -3, -64, -255, -256, -1023, -1024, -1025, -1 << 16, 1 - 1<<16, -1 << 31, -1<<31 - 1, 1 - 1<<32, -1 << 32, -1 << 62, math.MinInt, math.MinInt + 1, math.MinInt + 1024,
	1025, 1026, 1027, 1279, 1280, 2047, 2048, 4096, 1 << 16, 1<<16 + 1, 1<<31 - 1, 1 << 31, 1<<31 + 1, 1<<32 - 1, 1 << 32, 1<<32 + 1, 1<<32 + 1024, 1<<62 + 2, math.MaxInt - 1023, math.MaxInt - 1, math.MaxInt}

// fewCaps: capacities, both limits and those about powers of two among them.
var fewCaps = []int{0, 1, 2, 3, 4, 5, 7, 8, 9, 15, 16, 17, 31, 63, 64, 65, 100, 127, 128, 255, 256, 257, 511, 512, 1000, 1023, 1024}
