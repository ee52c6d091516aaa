package loom_test

import (
	"fmt"
	"slices"
	"testing"

	"churn/api"
	"churn/loom"
)

// checked: the error of Check, which must be that of Play too, there with a zero history.
func checked(t *testing.T, p api.Plan) api.Errno {
	t.Helper()
	e := loom.Check(p)
	h, played := loom.Play(p, []int{1, 2, 3})
	if played != e {
		t.Errorf("%s: Check: error %d, Play: %d", textOf(p), e, played)
	}
	if e != api.OK && !zeroHistory(h) {
		t.Errorf("%s: beside error %d the history %s", textOf(p), e, inWords(h))
	}
	if e == api.OK && len(h.Taken) != len(p.Tasks) {
		t.Errorf("%s: %d lists of what was taken", textOf(p), len(h.Taken))
	}
	return e
}

// wantCheck: whether Check and Play answer this error.
func wantCheck(t *testing.T, what string, p api.Plan, want api.Errno) {
	t.Helper()
	if e := checked(t, p); e != want {
		t.Errorf("%s: error %d; want %d", what, e, want)
	}
}

// P19.2: the errors' numbers, as the document tells them.
func TestNumbersOfErrors(t *testing.T) {
	wantCheck(t, "no tasks, no ducts", api.Plan{}, 0)
	wantCheck(t, "65 ducts", api.Plan{Caps: make([]int, 65)}, 1)
	wantCheck(t, "129 tasks", api.Plan{Tasks: make([][]api.Op, 129)}, 1)
	wantCheck(t, "257 operations", api.Plan{Tasks: [][]api.Op{slices.Repeat(opsOf("end"), 257)}}, 1)
	wantCheck(t, "a put without ducts", planOf(nil, "put 5"), 190)
	wantCheck(t, "a capacity below 0", planOf([]int{-1}), 190)
}

// P19.2: the limits, at each and just beyond it.
func TestCheckLimits(t *testing.T) {
	for n := range 200 {
		want := api.OK
		if n > 128 {
			want = api.ErrLong
		}
		wantCheck(t, fmt.Sprintf("%d tasks", n), api.Plan{Tasks: make([][]api.Op, n)}, want)
		wantCheck(t, fmt.Sprintf("%d tasks that end", n), api.Plan{Tasks: slices.Repeat([][]api.Op{opsOf("end")}, n)}, want)
		want = api.OK
		if n > 64 {
			want = api.ErrLong
		}
		wantCheck(t, fmt.Sprintf("%d ducts", n), api.Plan{Caps: make([]int, n)}, want)
		wantCheck(t, fmt.Sprintf("%d ducts, one task", n), api.Plan{Caps: slices.Repeat([]int{1024}, n), Tasks: [][]api.Op{opsOf("end")}}, want)
	}
	for n := range 300 {
		want := api.OK
		if n > 256 {
			want = api.ErrLong
		}
		long := slices.Repeat(opsOf("add 1"), n)
		wantCheck(t, fmt.Sprintf("%d operations", n), api.Plan{Tasks: [][]api.Op{long}}, want)
		wantCheck(t, fmt.Sprintf("%d operations of the last task", n), api.Plan{Tasks: [][]api.Op{nil, opsOf("end"), long}}, want)
		wantCheck(t, fmt.Sprintf("%d operations of the first task", n), api.Plan{Tasks: [][]api.Op{long, nil, opsOf("end")}}, want)
	}
	// All limits together; the operations of all tasks together are bound by nothing.
	full := api.Plan{Caps: slices.Repeat([]int{1024}, 64), Tasks: slices.Repeat([][]api.Op{slices.Repeat(opsOf("end"), 256)}, 128)}
	wantCheck(t, "all limits together", full, api.OK)
	for _, n := range []int{1 << 10, 1 << 16, 1 << 20} {
		wantCheck(t, fmt.Sprintf("%d tasks", n), api.Plan{Tasks: make([][]api.Op, n)}, api.ErrLong)
		wantCheck(t, fmt.Sprintf("%d ducts", n), api.Plan{Caps: make([]int, n)}, api.ErrLong)
		wantCheck(t, fmt.Sprintf("%d operations", n), api.Plan{Tasks: [][]api.Op{make([]api.Op, n)}}, api.ErrLong)
	}
	if api.MaxTasks != 128 || api.MaxDucts != 64 || api.MaxOps != 256 || api.MaxSteps != 1024 || api.MaxPicks != 65536 {
		t.Errorf("the limits are %d, %d, %d, %d, %d", api.MaxTasks, api.MaxDucts, api.MaxOps, api.MaxSteps, api.MaxPicks)
	}
}

// P19.2: a capacity is 0 to 1024, at each place.
func TestCheckCapacities(t *testing.T) {
	for capacity := -1030; capacity <= 1030; capacity++ {
		want := api.OK
		if capacity < 0 || capacity > 1024 {
			want = api.ErrPlan
		}
		wantCheck(t, fmt.Sprintf("capacity %d", capacity), planOf([]int{capacity}), want)
		wantCheck(t, fmt.Sprintf("capacity %d at last", capacity), planOf([]int{0, 1024, 3, capacity}, "put 0"), want)
	}
	for _, capacity := range outside {
		for place := range 5 {
			caps := []int{0, 1, 2, 3, 1024}
			caps[place] = capacity
			wantCheck(t, fmt.Sprintf("capacity %d", capacity), planOf(caps, "end"), api.ErrPlan)
		}
	}
}

// P19.2: what is too long is told ahead of what is wrong, wherever the one and the other stand.
func TestCheckOrder(t *testing.T) {
	wrong := []api.Op{{Kind: 77}}
	long := slices.Repeat(opsOf("end"), 257)
	manyTasks := slices.Repeat([][]api.Op{wrong}, 129)
	for what, p := range map[string]api.Plan{
		"a wrong operation ahead of a long task":         {Tasks: [][]api.Op{wrong, long}},
		"a wrong operation behind a long task":           {Tasks: [][]api.Op{long, wrong}},
		"a wrong operation in a long task":               {Tasks: [][]api.Op{append(slices.Clone(wrong), long...)}},
		"a wrong capacity and a long task":               {Caps: []int{-1}, Tasks: [][]api.Op{nil, long}},
		"a wrong capacity and too many tasks":            {Caps: []int{1025}, Tasks: manyTasks},
		"a wrong capacity of too many":                   {Caps: slices.Repeat([]int{-1}, 65)},
		"a wrong operation and too many ducts":           {Caps: make([]int, 65), Tasks: [][]api.Op{wrong}},
		"a wrong operation in each of too many tasks":    {Tasks: manyTasks},
		"a wrong operation and the last task long, of 9": {Tasks: append(slices.Repeat([][]api.Op{wrong}, 8), long)},
	} {
		wantCheck(t, what, p, api.ErrLong)
	}
	wantCheck(t, "a wrong capacity and a wrong operation", api.Plan{Caps: []int{-1}, Tasks: [][]api.Op{wrong}}, api.ErrPlan)
}

// The plan into which operations are laid below: 3 ducts, 4 tasks, and the task of the operation has 5 of them.
const (
	tasksThere = 4
	opsThere   = 5
)

// laid: the plan with op at that place of that task, among operations that are right.
func laid(op api.Op, task, place int) api.Plan {
	p := planOf([]int{0, 1, 2}, "end, end", "", "end", "end, end, end, end, end, end, end")
	p.Tasks[task] = opsOf("end, end, end, end, end")
	p.Tasks[task][place] = op
	return p
}

// from: is x from low to high?
func from(x, low, high int) bool { return low <= x && x <= high }

// rightWords: whether an operation is right in that plan, by the chapter's words.
func rightWords(op api.Op) bool {
	a, b := op.A, op.B
	switch op.Kind {
	case 1, 3:
		return from(a, 0, 2)
	case 2:
		return from(a, 0, 2) && from(b, 0, 5)
	case 4, 5:
		return from(a, -1024, 1024)
	case 6:
		return from(a, 0, 5)
	case 7:
		return from(a, 0, 5) && from(b, -1024, 1024)
	case 8:
		return from(a, 0, 2) && from(b, 0, 2)
	case 9:
		return from(a, 0, 3)
	case 10:
		return true
	}
	return false
}

// P19.2: each kind of operation, with each of its numbers within its bounds, at them, and beyond; what it doesn't use counts for nothing.
func TestCheckOperations(t *testing.T) {
	near := slices.Clone(outside)
	for x := -8; x <= 8; x++ {
		near = append(near, x, 64+x, 128+x, 256+x)
	}
	near = append(near, -1024, -1023, 1023, 1024)
	right := 0
	for kind := -2; kind <= 13; kind++ {
		for _, a := range near {
			for _, b := range near {
				op := api.Op{Kind: kind, A: a, B: b}
				want := api.OK
				if !rightWords(op) {
					want = api.ErrPlan
				} else {
					right++
				}
				if e := loom.Check(laid(op, 1, 0)); e != want {
					t.Fatalf("%+v: error %d; want %d", op, e, want)
				}
			}
		}
	}
	if right < 10000 {
		t.Errorf("no more than %d of them were right", right)
	}
	for _, kind := range outside {
		wantCheck(t, fmt.Sprintf("kind %d", kind), laid(api.Op{Kind: kind}, 1, 0), api.ErrPlan)
	}
}

// P19.2: each number in a wide range, with the other at a bound of its own.
func TestCheckEveryNumber(t *testing.T) {
	for kind := 1; kind <= 10; kind++ {
		for x := -1100; x <= 1100; x++ {
			for _, op := range []api.Op{{Kind: kind, A: x}, {Kind: kind, A: x, B: 2}, {Kind: kind, B: x}, {Kind: kind, A: 2, B: x}} {
				want := api.OK
				if !rightWords(op) {
					want = api.ErrPlan
				}
				if e := loom.Check(laid(op, 2, 1)); e != want {
					t.Fatalf("%+v: error %d; want %d", op, e, want)
				}
			}
		}
	}
}

// P19.2: a wrong operation is found in each task, at each place, where no pick comes too.
func TestCheckEveryPlace(t *testing.T) {
	for task := range tasksThere {
		for place := range opsThere {
			for _, wrong := range []api.Op{{}, {Kind: 11}, {Kind: api.OpPut, A: 3}, {Kind: api.OpTake, B: 6}, {Kind: api.OpClose, A: -1}, {Kind: api.OpSet, A: 1025}, {Kind: api.OpAdd, A: -1025},
				{Kind: api.OpJump, A: 6}, {Kind: api.OpUnless, A: 6}, {Kind: api.OpUnless, B: 1025}, {Kind: api.OpChoose, B: 3}, {Kind: api.OpChoose, A: 3}, {Kind: api.OpWait, A: 4}} {
				wantCheck(t, fmt.Sprintf("%+v as operation %d of task %d", wrong, place, task), laid(wrong, task, place), api.ErrPlan)
			}
			for _, right := range []api.Op{{Kind: api.OpPut, A: 2}, {Kind: api.OpTake, A: 2, B: 5}, {Kind: api.OpClose}, {Kind: api.OpSet, A: -1024}, {Kind: api.OpAdd, A: 1024},
				{Kind: api.OpJump, A: 5}, {Kind: api.OpUnless, A: 5, B: 1024}, {Kind: api.OpChoose, A: 2, B: 2}, {Kind: api.OpWait, A: 3}, {Kind: api.OpEnd, A: -1, B: -1}} {
				wantCheck(t, fmt.Sprintf("%+v as operation %d of task %d", right, place, task), laid(right, task, place), api.OK)
			}
		}
	}
}

// P19.2: a place is one of the task's own operations or its end, whatever the other tasks have.
func TestCheckPlacesAreTheTasksOwn(t *testing.T) {
	for n := 1; n <= 256; n++ {
		for _, other := range []int{0, 1, n, 256} {
			for _, kind := range []int{api.OpJump, api.OpUnless, api.OpTake} {
				for _, place := range []int{-1, 0, n - 1, n, n + 1, 256, 257} {
					ops := slices.Repeat(opsOf("end"), n)
					op := api.Op{Kind: kind, A: place}
					if kind == api.OpTake {
						op = api.Op{Kind: kind, B: place}
					}
					ops[n-1] = op
					want := api.OK
					if place < 0 || place > n {
						want = api.ErrPlan
					}
					if e := loom.Check(api.Plan{Caps: []int{0}, Tasks: [][]api.Op{ending(other), ops}}); e != want {
						t.Fatalf("%+v, %d operations, %d of the other task: error %d; want %d", op, n, other, e, want)
					}
				}
			}
		}
	}
}

// ending: so many operations that are right.
func ending(n int) []api.Op { return slices.Repeat(opsOf("end"), n) }

// P19.2: a duct's number and a task's number are below how many there are, at each number of them.
func TestCheckNumbersThere(t *testing.T) {
	for n := range 65 {
		for _, x := range []int{-1, 0, n - 1, n, n + 1, 63, 64} {
			want := api.ErrPlan
			if x >= 0 && x < n {
				want = api.OK
			}
			for _, op := range []api.Op{{Kind: api.OpPut, A: x}, {Kind: api.OpTake, A: x}, {Kind: api.OpClose, A: x}, {Kind: api.OpChoose, A: x, B: max(n-1, 0)}, {Kind: api.OpChoose, A: max(n-1, 0), B: x}} {
				if e := loom.Check(api.Plan{Caps: make([]int, n), Tasks: [][]api.Op{{op}}}); e != want {
					t.Fatalf("%+v, %d ducts: error %d; want %d", op, n, e, want)
				}
			}
		}
	}
	for n := 1; n <= 128; n++ {
		for _, x := range []int{-1, 0, n - 1, n, n + 1, 127, 128} {
			want := api.ErrPlan
			if x >= 0 && x < n {
				want = api.OK
			}
			tasks := make([][]api.Op, n)
			tasks[n/2] = []api.Op{{Kind: api.OpWait, A: x}}
			if e := loom.Check(api.Plan{Tasks: tasks}); e != want {
				t.Fatalf("a wait of task %d, %d tasks: error %d; want %d", x, n, e, want)
			}
		}
	}
}

// unused: the operation with other numbers where it uses none.
func unused(op api.Op, x int) api.Op {
	switch op.Kind {
	case api.OpEnd:
		op.A = x
		fallthrough
	case api.OpPut, api.OpClose, api.OpSet, api.OpAdd, api.OpJump, api.OpWait:
		op.B = x
	}
	return op
}

// P19.2: what an operation doesn't use counts for nothing, in a run neither.
func TestUnusedNumbers(t *testing.T) {
	plain := planOf([]int{1, 0, 3}, "set 5, put 0, add 3, put 1, close 1, jump 7, end, put 2, close 2, close 0", "take 0 1, choose 1 2, unless 0 8, take 2 4, wait 0, end, put 0", "choose 0 2, put 2, end, end")
	for _, script := range [][]int{nil, {1, 1, 1, 1}, {2, 0, -1, 5, 2, 1}} {
		want := checkPlay(t, plain, script).history
		for _, x := range append([]int{-1, 1, 2, 3, 9, 64, 128, 256}, outside...) {
			other := api.Plan{Caps: plain.Caps}
			for _, ops := range plain.Tasks {
				list := slices.Clone(ops)
				for i := range list {
					list[i] = unused(list[i], x)
				}
				other.Tasks = append(other.Tasks, list)
			}
			if got, e := loom.Play(other, script); e != api.OK || !sameHistory(got, want) {
				t.Errorf("with %d where nothing counts: %s, error %d; want %s", x, inWords(got), e, inWords(want))
			}
		}
	}
}
