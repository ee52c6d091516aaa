package order_test

import (
	"fmt"
	"math"
	"testing"

	"churn/api"
	"churn/order"
)

// A sorter is what a buffer of numbers is asked. Buffers of other things are asked through a dressed, and the chapter's words through a words.
type sorter interface {
	Put(i int, x int) api.Errno
	Next() (int, bool)
	At() int
	Held() int
}

// A dressed is a buffer of any things that is asked with numbers: number 0 is the zero thing.
type dressed[T any] struct {
	*order.Buffer[T]
	thing  func(int) T
	number func(T) int
}

func (d dressed[T]) Put(i int, x int) api.Errno { return d.Buffer.Put(i, d.thing(x)) }

func (d dressed[T]) Next() (int, bool) {
	x, is := d.Buffer.Next()
	return d.number(x), is
}

// An item is a number with what was put under it.
type item struct{ number, x int }

// A words is a buffer by the words of the chapter: all items that were ever put, those too that have been given out.
type words struct {
	isNil bool
	put   []item
	given int
}

func (w *words) find(i int) (int, bool) {
	for _, p := range w.put {
		if p.number == i {
			return p.x, true
		}
	}
	return 0, false
}

func (w *words) Put(i int, x int) api.Errno {
	if w.isNil || i < 0 {
		return 2
	}
	if _, was := w.find(i); was {
		return 200
	}
	w.put = append(w.put, item{i, x})
	return 0
}

func (w *words) Next() (int, bool) {
	x, is := w.find(w.given)
	if is {
		w.given++
	}
	return x, is
}

func (w *words) At() int   { return w.given }
func (w *words) Held() int { return len(w.put) - w.given }

// A call is a put of a number, or a Next.
type call struct {
	next   bool
	number int
}

// A said is what a call answers, and what At and Held are behind it: X and Is of a Next, Err of a put.
type said struct {
	X        int
	Is       bool
	Err      api.Errno
	At, Held int
}

func do(s sorter, c call, x int) (a said) {
	if c.next {
		a.X, a.Is = s.Next()
	} else {
		a.Err = s.Put(c.number, x)
	}
	a.At, a.Held = s.At(), s.Held()
	return a
}

// calls: a script's calls by its letters: a digit puts that number, n is a Next, - puts -1, < the least int and > the greatest one.
func calls(script string) (list []call) {
	for _, letter := range script {
		switch letter {
		case 'n':
			list = append(list, call{next: true})
		case '-':
			list = append(list, call{number: -1})
		case '<':
			list = append(list, call{number: math.MinInt})
		case '>':
			list = append(list, call{number: math.MaxInt})
		default:
			list = append(list, call{number: int(letter - '0')})
		}
	}
	return list
}

// checkCalls: whether a buffer answers calls as the words say, ahead of the first and behind each. The put at place i puts the item i + 1.
func checkCalls(t testing.TB, what string, got, want sorter, list []call) {
	t.Helper()
	if got.At() != want.At() || got.Held() != want.Held() {
		t.Fatalf("%s: at first At %d, Held %d; want %d, %d", what, got.At(), got.Held(), want.At(), want.Held())
	}
	for i, c := range list {
		if g, w := do(got, c, i+1), do(want, c, i+1); g != w {
			t.Fatalf("%s: call %d, %+v: %+v; want %+v", what, i, c, g, w)
		}
	}
}

// checkScript: the same of a script's letters, with Next asked behind it till nothing comes any more.
func checkScript(t testing.TB, what string, got, want sorter, script string) {
	t.Helper()
	list := calls(script)
	for range len(list) + 1 {
		list = append(list, call{next: true})
	}
	checkCalls(t, fmt.Sprintf("%s, script %q", what, script), got, want, list)
}

// scripts: all scripts of at most so many of the letters.
func scripts(letters string, most int) []string {
	out := []string{""}
	for from := 0; most > 0; most-- {
		end := len(out)
		for _, s := range out[from:end] {
			for _, l := range letters {
				out = append(out, s+string(l))
			}
		}
		from = end
	}
	return out
}

// orders: all orders of the numbers from 0 to n - 1.
func orders(n int) [][]int {
	if n == 0 {
		return [][]int{nil}
	}
	var out [][]int
	for _, o := range orders(n - 1) {
		for at := range n {
			next := append([]int(nil), o[:at]...)
			out = append(out, append(append(next, n-1), o[at:]...))
		}
	}
	return out
}

// A note is an error at a number.
type note struct {
	number int
	err    api.Errno
}

// firstByWords: the lowest number at which an error is noted, and the first one that was noted there.
func firstByWords(notes []note) (lowest int, e api.Errno) {
	lowest = -1
	for _, n := range notes {
		if n.err != 0 && n.number >= 0 && (lowest < 0 || n.number < lowest) {
			lowest = n.number
		}
	}
	for _, n := range notes {
		if lowest >= 0 && n.number == lowest && n.err != 0 {
			return lowest, n.err
		}
	}
	return -1, 0
}

// checkNotes: whether a fault answers by the words, asked ahead of the first note and behind each one.
func checkNotes(t testing.TB, notes []note) {
	t.Helper()
	var f order.Fault
	for i := range len(notes) + 1 {
		at, e := f.First()
		if wantAt, want := firstByWords(notes[:i]); at != wantAt || e != want {
			t.Fatalf("behind %v: First = %d, error %d; want %d, %d", notes[:i], at, e, wantAt, want)
		}
		if i < len(notes) {
			f.Note(notes[i].number, notes[i].err)
		}
	}
}

// checkNotesAtLast: the same, asked at the end alone: that it is asked must not change anything.
func checkNotesAtLast(t testing.TB, notes []note) {
	t.Helper()
	var f order.Fault
	for _, n := range notes {
		f.Note(n.number, n.err)
	}
	wantAt, want := firstByWords(notes)
	for range 2 {
		if at, e := f.First(); at != wantAt || e != want {
			t.Fatalf("behind %v: First = %d, error %d; want %d, %d", notes, at, e, wantAt, want)
		}
	}
}

// below: numbers below 0, those among them that wouldn't be if they were cut to fewer bits or their sign left out.
var below = []int{-1, -2, -3, -7, -64, -255, -256, -1 << 15, -1 << 16, 1 - 1<<16, -1 << 31, -1<<31 - 1, 1 - 1<<32, -1 << 32, -1<<32 + 3, -1 << 62, math.MinInt + 1, math.MinInt}

// far: numbers that are far apart, among them those that would be one and the same if they were cut to fewer bits.
var far = []int{0, 1, 255, 256, 257, 1<<16 - 1, 1 << 16, 1<<16 + 1, 1<<31 - 1, 1 << 31, 1<<31 + 1, 1<<32 - 1, 1 << 32, 1<<32 + 1, 1 << 62, 1<<62 + 1, math.MaxInt - 1, math.MaxInt}
