package order_test

import (
	"fmt"
	"math"
	"math/rand"
	"testing"

	"churn/api"
	"churn/order"
)

// P20.2: the chapter's examples.
func TestFaultExamples(t *testing.T) {
	var f, zero order.Fault
	f.Note(7, api.ErrTape)
	f.Note(3, api.ErrFull)
	f.Note(3, api.ErrTape)
	f.Note(-1, api.ErrArg)
	f.Note(2, api.OK)
	if i, e := f.First(); i != 3 || e != 160 {
		t.Errorf("First = %d, error %d; want 3, 160", i, e)
	}
	if i, e := zero.First(); i != -1 || e != 0 {
		t.Errorf("First of a new one = %d, error %d", i, e)
	}
	if i, e := (*order.Fault)(nil).First(); i != -1 || e != 0 {
		t.Errorf("First of a nil one = %d, error %d", i, e)
	}
}

// P20.2: a nil fault notes nothing, whatever it is told.
func TestNilFault(t *testing.T) {
	var none *order.Fault
	for _, list := range [][]int{below, far} {
		for _, i := range list {
			none.Note(i, api.ErrTape)
			if at, e := none.First(); at != -1 || e != api.OK {
				t.Errorf("behind a note at %d: First = %d, error %d", i, at, e)
			}
		}
	}
}

// P20.2: all lists of a few notes, at numbers below 0, at 0, above it, and at the greatest int, with OK and with errors.
func TestAllShortLists(t *testing.T) {
	most := 4
	if testing.Short() {
		most = 3
	}
	var notes []note
	for _, number := range []int{-1, 0, 1, 5, math.MaxInt} {
		for _, e := range []api.Errno{0, 3, 160} {
			notes = append(notes, note{number, e})
		}
	}
	lists := [][]note{nil}
	for from := 0; most > 0; most-- {
		end := len(lists)
		for _, l := range lists[from:end] {
			for _, n := range notes {
				lists = append(lists, append(append([]note(nil), l...), n))
			}
		}
		from = end
	}
	for _, l := range lists {
		checkNotes(t, l)
		checkNotesAtLast(t, l)
	}
}

// P20.2: OK is noted as nothing at every number, ahead of errors, between them and behind them; so is what stands below 0.
func TestNothingIsNoted(t *testing.T) {
	for _, i := range far {
		checkNotes(t, []note{{i, 0}, {i, 3}, {i, 0}, {i, 2}, {0, 0}, {i, 0}})
		for _, b := range below {
			checkNotes(t, []note{{b, 3}, {i, 2}, {b, 3}, {b, 0}, {b, 160}})
		}
	}
	for _, b := range below {
		checkNotes(t, []note{{b, 3}, {b, 0}, {b, 2}, {0, 0}})
	}
}

// P20.2: of several errors at one number the first counts, whatever stands at other numbers, and whichever of them is the greater.
func TestFirstAtOneNumberCounts(t *testing.T) {
	for _, i := range far[1:] {
		checkNotes(t, []note{{i, 3}, {i, 2}, {i, 160}, {i, 1}})
		checkNotes(t, []note{{i, 2}, {i, 3}, {i, 1}, {0, 160}, {0, 3}, {i, 3}})
		checkNotes(t, []note{{math.MaxInt, 9}, {i, 160}, {math.MaxInt, 2}, {i, 3}, {i - 1, 1}, {i - 1, 2}, {i, 2}})
	}
}

// P20.2: every number but OK is an error, the least and the greatest one too.
func TestEveryError(t *testing.T) {
	for _, e := range []api.Errno{1, 2, 3, 50, 160, 200, 290, 1 << 16, 1 << 32, -1, -3, math.MaxInt, math.MinInt} {
		checkNotes(t, []note{{4, e}, {9, 2}, {4, 1}})
		checkNotes(t, []note{{9, e}, {4, 2}})
		checkNotes(t, []note{{9, 2}, {4, e}, {0, 0}})
	}
}

// P20.2: errors at unlike numbers, noted in every order of them: First is the same.
func TestEveryOrderOfNotes(t *testing.T) {
	for _, numbers := range [][]int{{0, 1, 2, 3, 4, 5}, {3, 5, 8, 13, 21, 34}, {7, 1 << 16, 1<<16 + 7, 1 << 32, 1<<32 + 7, math.MaxInt}} {
		for n := 1; n <= len(numbers); n++ {
			for _, o := range orders(n) {
				var f order.Fault
				for _, j := range o {
					f.Note(numbers[j], api.Errno(10+j))
				}
				if i, e := f.First(); i != numbers[0] || e != 10 {
					t.Errorf("noted in the order %v of %v: First = %d, error %d", o, numbers, i, e)
				}
			}
		}
	}
}

// P20.2: many notes without a rule; and the same in another order, in which those at one number stay in theirs.
func TestManyNotes(t *testing.T) {
	r := rand.New(rand.NewSource(2020))
	for round := range 300 {
		var notes []note
		first := r.Intn(200)
		for range 1 + r.Intn(300) {
			n := note{first + r.Intn(100), api.Errno(r.Intn(5))}
			if r.Intn(20) == 0 {
				n.number = below[r.Intn(len(below))]
			}
			notes = append(notes, n)
		}
		checkNotes(t, notes)
		byNumber := map[int][]note{}
		var left []int
		for _, n := range notes {
			byNumber[n.number] = append(byNumber[n.number], n)
			left = append(left, n.number)
		}
		r.Shuffle(len(left), func(i, j int) { left[i], left[j] = left[j], left[i] })
		var f, g order.Fault
		for i, number := range left {
			f.Note(notes[i].number, notes[i].err)
			g.Note(number, byNumber[number][0].err)
			byNumber[number] = byNumber[number][1:]
		}
		i, e := f.First()
		if j, d := g.First(); i != j || d != e {
			t.Errorf("round %d: First = %d, error %d; in another order %d, %d", round, i, e, j, d)
		}
	}
}

// P20.2: faults side by side know nothing of each other; a copy of one goes its own way.
func TestFaultsSideBySide(t *testing.T) {
	var list [20]order.Fault
	for i := range list {
		list[i].Note(i+5, api.Errno(100+i))
	}
	early := list
	for i := range list {
		list[i].Note(i, api.Errno(200+i))
	}
	for i := range list {
		if at, e := early[i].First(); at != i+5 || e != api.Errno(100+i) {
			t.Errorf("copy %d: First = %d, error %d", i, at, e)
		}
		if at, e := list[i].First(); at != i || e != api.Errno(200+i) {
			t.Errorf("fault %d: First = %d, error %d", i, at, e)
		}
	}
}

// Rule 7: faults and buffers, each used by one goroutine, at one time.
func TestAtOneTime(t *testing.T) {
	r := rand.New(rand.NewSource(2021))
	done := make(chan error)
	const hands = 16
	for range hands {
		o := r.Perm(500)
		go func() {
			b, f := order.New[int](), new(order.Fault)
			for _, i := range o {
				b.Put(i, i)
				f.Note(i+3, api.Errno(i+1))
			}
			for want := range o {
				if x, is := b.Next(); x != want || !is {
					done <- fmt.Errorf("Next %d: %d, %v", want, x, is)
					return
				}
			}
			if at, e := f.First(); at != 3 || e != 1 {
				done <- fmt.Errorf("First = %d, error %d", at, e)
				return
			}
			done <- nil
		}()
	}
	for range hands {
		if err := <-done; err != nil {
			t.Error(err)
		}
	}
}
