package loom_test

import (
	"math/rand"
	"runtime"
	"slices"
	"sync"
	"testing"

	"churn/api"
	"churn/loom"
)

// roomy: the list with spare room behind it that is full of x.
func roomy[T any](list []T, x T) []T {
	long := append(slices.Clone(list), slices.Repeat([]T{x}, 5)...)
	return long[:len(list)]
}

// roomyPlan: a copy of the plan, each of its lists with spare room.
func roomyPlan(p api.Plan) api.Plan {
	tasks := make([][]api.Op, len(p.Tasks))
	for i, ops := range p.Tasks {
		tasks[i] = roomy(ops, api.Op{Kind: -7, A: -8, B: -9})
	}
	return api.Plan{Caps: roomy(p.Caps, -5), Tasks: roomy(tasks, opsOf("jump 3"))}
}

// samePlan: alike, spare room and all.
func samePlan(a, b api.Plan) bool {
	sameOps := func(x, y []api.Op) bool { return slices.Equal(x[:cap(x)], y[:cap(y)]) && len(x) == len(y) }
	return slices.Equal(a.Caps[:cap(a.Caps)], b.Caps[:cap(b.Caps)]) && slices.EqualFunc(a.Tasks[:cap(a.Tasks)], b.Tasks[:cap(b.Tasks)], sameOps)
}

// wholePlan: a copy of a plan, of its spare room too.
func wholePlan(p api.Plan) api.Plan {
	tasks := slices.Clone(p.Tasks[:cap(p.Tasks)])
	for i, ops := range tasks {
		tasks[i] = slices.Clip(slices.Clone(ops[:cap(ops)]))[:len(ops)]
	}
	return api.Plan{Caps: slices.Clip(slices.Clone(p.Caps[:cap(p.Caps)]))[:len(p.Caps)], Tasks: slices.Clip(tasks)[:len(p.Tasks)]}
}

// Rule 5: what is handed in stays as it is, its spare room too, whether it is a plan or not.
func TestInputsStay(t *testing.T) {
	r := rand.New(rand.NewSource(1950))
	for i := range 400 {
		p := roomyPlan(somePlan(r, 4, 6, 10))
		script := roomy(someScript(r, 30), -3)
		if len(playWords(p, script, 500).history.Picks) == 500 {
			continue
		}
		if i%4 == 0 && len(p.Tasks) > 0 {
			p.Tasks[0] = roomy(opsOf("jump 99"), api.Op{Kind: 3})
		}
		planWas, scriptWas := wholePlan(p), slices.Clone(script[:cap(script)])
		loom.Check(p)
		loom.Play(p, script)
		if !samePlan(p, planWas) || !slices.Equal(script[:cap(script)], scriptWas) {
			t.Fatalf("what was handed in has changed: %s; it was %s", textOf(p), textOf(planWas))
		}
	}
}

// Rule 5: Run leaves its lists as they are too.
func TestRunInputsStay(t *testing.T) {
	w := ruled("bsr-b", 3, 70, 10)
	tasks := roomy(w.tasks(), loom.Task{Step: func() bool { panic("it is none of the list") }})
	script := roomy([]int{4, -4, 7, 7}, -3)
	was := slices.Clone(script[:cap(script)])
	loom.Run(tasks, script, 40)
	if !slices.Equal(script[:cap(script)], was) {
		t.Errorf("the script is %v; it was %v", script[:cap(script)], was)
	}
	for i, task := range tasks[:cap(tasks)] {
		hasReady, hasStep := i < 5 && w.hasReady(i), i >= 5 && i < 10 || i < 5 && w.hasStep(i)
		if i < 10 && ((task.Ready != nil) != hasReady || (task.Step != nil) != hasStep) {
			t.Errorf("task %d has changed", i)
		}
	}
}

// lists: all lists of a history.
func lists(h api.History) [][]int { return append([][]int{h.Picks}, h.Taken...) }

// copied: a history with lists of its own.
func copied(h api.History) api.History {
	h.Picks = slices.Clone(h.Picks)
	h.Taken = slices.Clone(h.Taken)
	for i := range h.Taken {
		h.Taken[i] = slices.Clone(h.Taken[i])
	}
	return h
}

// Rule 5: no two lists of one answer share memory, nor those of two answers, nor an answer and what was handed in.
func TestAnswersApart(t *testing.T) {
	p := planOf([]int{3, 0}, "set 1, put 0, put 0, put 1, put 1, take 0 0", "take 0 0, take 1 0, end", "choose 1 0, end", "")
	script := []int{1, 2, 0, -1, 5, 2, 1, 1}
	first, _ := loom.Play(p, script)
	second, _ := loom.Play(p, script)
	want := copied(first)
	planWas, scriptWas := wholePlan(p), slices.Clone(script)
	for i, list := range lists(first) {
		before := copied(first)
		full := list[:cap(list)]
		for j := range full {
			full[j] = -99
		}
		for j, other := range lists(first) {
			if i != j && !slices.Equal(other, lists(before)[j]) {
				t.Errorf("list %d changes with list %d", j, i)
			}
		}
	}
	if !sameHistory(second, want) || !samePlan(p, planWas) || !slices.Equal(script, scriptWas) {
		t.Errorf("an answer shares memory with another one, or with what was handed in")
	}
	first.Taken[0], first.Taken = []int{5}, append(first.Taken, []int{6})
	if third, _ := loom.Play(p, script); !sameHistory(third, want) || !sameHistory(second, want) {
		t.Errorf("behind changes of an answer: %s; want %s", inWords(third), inWords(want))
	}
}

// Rule 5: Run's picks are new memory.
func TestRunAnswersApart(t *testing.T) {
	script := []int{0, 1, 0, 1, 1}
	run := func() api.History { return loom.Run(ruled("sss", 1, 100, 0).tasks(), script, 5) }
	first, second := run(), run()
	for i := range first.Picks[:cap(first.Picks)] {
		first.Picks[:cap(first.Picks)][i] = -99
	}
	if numbers(second.Picks) != "0 1 0 1 1" || numbers(script) != "0 1 0 1 1" || numbers(run().Picks) != "0 1 0 1 1" {
		t.Errorf("picks %v, script %v", second.Picks, script)
	}
}

// Rule 5: tasks that are one and the same list, and a script that is the list of capacities, are as good as copies of them.
func TestSharedInputs(t *testing.T) {
	ops := opsOf("add 1, put 0, take 1 4, put 1, choose 0 1, end")
	numbers := []int{1, 0, 2, 1, 1, 0, 1, 1, 2}
	shared := api.Plan{Caps: numbers[:3], Tasks: [][]api.Op{ops, ops, ops[:1], ops}}
	apart := api.Plan{Caps: slices.Clone(numbers[:3]), Tasks: [][]api.Op{slices.Clone(ops), slices.Clone(ops), slices.Clone(ops[:1]), slices.Clone(ops)}}
	got, e := loom.Play(shared, numbers)
	if want := checkPlay(t, apart, slices.Clone(numbers)).history; e != api.OK || !sameHistory(got, want) {
		t.Errorf("%s, error %d; want %s", inWords(got), e, inWords(want))
	}
}

// Rule 4: nil lists and empty ones are the same.
func TestNilAndEmpty(t *testing.T) {
	for _, p := range []api.Plan{{}, {Caps: []int{}}, {Tasks: [][]api.Op{}}, {Caps: []int{}, Tasks: [][]api.Op{}}} {
		for _, script := range [][]int{nil, {}} {
			if h, e := loom.Play(p, script); e != api.OK || inWords(h) != "picks -; most 0; late 0; ended;" || loom.Check(p) != api.OK {
				t.Errorf("a plan of nothing: %s, error %d", inWords(h), e)
			}
		}
	}
	for _, tasks := range [][][]api.Op{{nil, opsOf("wait 0, end")}, {{}, opsOf("wait 0, end")}} {
		if h, e := loom.Play(api.Plan{Tasks: tasks}, nil); e != api.OK || inWords(h) != "picks 1 1; most 0; late 0; ended; - / -" {
			t.Errorf("a task of no operations: %s, error %d", inWords(h), e)
		}
	}
	for _, tasks := range [][]loom.Task{nil, {}, {{}}} {
		for _, script := range [][]int{nil, {}, {1}} {
			if h := loom.Run(tasks, script, 3); inWords(h) != "picks -; most 0; late 0; ended;" {
				t.Errorf("no tasks: %s", inWords(h))
			}
		}
	}
}

// Rule 6: nothing is kept from call to call: plans by turns, refused ones among them, answer as they do alone.
func TestNothingIsKept(t *testing.T) {
	r := rand.New(rand.NewSource(1960))
	var plans []api.Plan
	var scripts [][]int
	var want []api.History
	for len(plans) < 60 {
		p, script := somePlan(r, 4, 6, 10), someScript(r, 40)
		if w := playWords(p, script, 500); len(w.history.Picks) < 500 {
			plans, scripts, want = append(plans, p), append(scripts, script), append(want, w.history)
		}
	}
	for range 2000 {
		i := r.Intn(len(plans))
		if h, e := loom.Play(plans[i], scripts[i]); e != api.OK || !sameHistory(h, want[i]) {
			t.Fatalf("%s: %s, error %d; want %s", textOf(plans[i]), inWords(h), e, inWords(want[i]))
		}
		if r.Intn(5) == 0 {
			loom.Play(planOf([]int{-1}, "put 0"), nil)
		}
	}
}

// Rules 6 and 7: plays by many goroutines at one time don't touch each other, and none of their own is left over.
func TestPlaysAtOneTime(t *testing.T) {
	p := planOf([]int{2, 0}, "add 1, put 0, unless 0 40, close 0", "take 0 3, put 1, jump 0, close 1", "take 1 2, jump 0")
	r := rand.New(rand.NewSource(1961))
	var hands sync.WaitGroup
	before := runtime.NumGoroutine()
	for range 8 {
		script := someScript(r, 100)
		want := playWords(p, script, 65536).history
		hands.Go(func() {
			for range 50 {
				if h, e := loom.Play(p, script); e != api.OK || !sameHistory(h, want) {
					t.Errorf("%s, error %d; want %s", inWords(h), e, inWords(want))
				}
			}
		})
	}
	hands.Wait()
	for range 100 {
		if runtime.NumGoroutine() <= before {
			return
		}
		runtime.Gosched()
	}
	t.Errorf("%d goroutines; there were %d", runtime.NumGoroutine(), before)
}

// Rule 1: plans of any numbers at all: each is a plan or it isn't, and no call panics or fails to end.
func TestAnyNumbers(t *testing.T) {
	r := rand.New(rand.NewSource(1962))
	some := func() int {
		if r.Intn(3) == 0 {
			return outside[r.Intn(len(outside))]
		}
		return r.Intn(14) - 2
	}
	for range 20000 {
		var p api.Plan
		for range r.Intn(3) {
			p.Caps = append(p.Caps, some())
		}
		for range r.Intn(3) {
			var ops []api.Op
			for range r.Intn(3) {
				ops = append(ops, api.Op{Kind: some(), A: some(), B: some()})
			}
			p.Tasks = append(p.Tasks, ops)
		}
		checked(t, p)
	}
}
