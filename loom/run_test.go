package loom_test

import (
	"fmt"
	"math"
	"math/rand"
	"slices"
	"strings"
	"testing"

	"churn/api"
	"churn/loom"
)

// A world is tasks as functions that write down how they are called: r0 is Ready of task 0, s0 its Step. What they answer may hang on how many calls there were ahead, so that a call too many, too few or elsewhere changes all that follows.
type world struct {
	kinds string // of each task: b has both functions, s Step alone, r Ready alone, - none
	ready func(task, calls int) bool
	ends  func(task, calls int) bool
	log   []string
}

func (w *world) asked(task int) bool {
	w.log = append(w.log, fmt.Sprint("r", task))
	return w.ready(task, len(w.log))
}

func (w *world) stepped(task int) bool {
	w.log = append(w.log, fmt.Sprint("s", task))
	return w.ends(task, len(w.log))
}

func (w *world) hasReady(task int) bool { return w.kinds[task] == 'b' || w.kinds[task] == 'r' }
func (w *world) hasStep(task int) bool  { return w.kinds[task] == 'b' || w.kinds[task] == 's' }

func (w *world) tasks() (list []loom.Task) {
	for i := range len(w.kinds) {
		var task loom.Task
		if w.hasReady(i) {
			task.Ready = func() bool { return w.asked(i) }
		}
		if w.hasStep(i) {
			task.Step = func() bool { return w.stepped(i) }
		}
		list = append(list, task)
	}
	return list
}

// runWords: a run of the world's tasks by the chapter's words.
func (w *world) runWords(script []int, most int) (h api.History) {
	ended := make([]bool, len(w.kinds))
	left := 0
	for i := range ended {
		ended[i] = !w.hasStep(i)
		if !ended[i] {
			left++
		}
	}
	for left > 0 {
		var may []int
		for i := range ended {
			if !ended[i] && (!w.hasReady(i) || w.asked(i)) {
				may = append(may, i)
			}
		}
		if len(may) == 0 {
			h.Stuck = true
			return h
		}
		if len(h.Picks) >= most {
			return h
		}
		task := picked(may, script, len(h.Picks))
		h.Picks = append(h.Picks, task)
		if w.stepped(task) {
			ended[task] = true
			left--
		}
	}
	h.Ended = true
	return h
}

func always(int, int) bool { return true }
func never(int, int) bool  { return false }

// counted: a task's Step ends it at its call number last[task]; 0: never.
func counted(last ...int) func(int, int) bool {
	made := make([]int, len(last))
	return func(task, _ int) bool {
		made[task]++
		return made[task] == last[task]
	}
}

// P19.1: what is called and what is answered, written out: no tasks, tasks without Step, without Ready; no pick, one, just as many as are needed, and more; runs that end, that are stuck, and that are neither.
func TestRunWrittenOut(t *testing.T) {
	for _, c := range []struct {
		kinds     string
		ready     func(int, int) bool
		ends      func(int, int) bool
		script    []int
		most      int
		log, want string
	}{
		// No tasks: ended at once.
		{"", always, always, nil, -1, "", "picks -; most 0; late 0; ended;"},
		{"", always, always, nil, 0, "", "picks -; most 0; late 0; ended;"},
		{"", always, always, []int{3, 4}, 7, "", "picks -; most 0; late 0; ended;"},
		// A nil Step: ended from the beginning, and its Ready is never asked.
		{"-", always, always, nil, 5, "", "picks -; most 0; late 0; ended;"},
		{"r", always, always, nil, 5, "", "picks -; most 0; late 0; ended;"},
		{"r-r", never, always, []int{1}, 5, "", "picks -; most 0; late 0; ended;"},
		{"r-r", always, always, []int{1}, -5, "", "picks -; most 0; late 0; ended;"},
		{"rbr", always, counted(0, 2, 0), []int{2, 2, 2}, 5, "r1 s1 r1 s1", "picks 1 1; most 0; late 0; ended;"},
		// A nil Ready: it may be picked till it ends.
		{"s", always, counted(3), nil, 9, "s0 s0 s0", "picks 0 0 0; most 0; late 0; ended;"},
		{"sb", never, counted(2, 1), nil, 9, "r1 s0 r1 s0 r1", "picks 0 0; most 0; late 0; stuck;"},
		{"bs", never, counted(1, 2), []int{0, 0, 0}, 9, "r0 s1 r0 s1 r0", "picks 1 1; most 0; late 0; stuck;"},
		// No pick at most: the tasks are asked once.
		{"bb", always, always, nil, 0, "r0 r1", "picks -; most 0; late 0;"},
		{"bb", always, always, []int{1}, -1, "r0 r1", "picks -; most 0; late 0;"},
		{"bb", always, always, nil, math.MinInt, "r0 r1", "picks -; most 0; late 0;"},
		{"bb", never, always, nil, 0, "r0 r1", "picks -; most 0; late 0; stuck;"},
		{"s", always, always, nil, 0, "", "picks -; most 0; late 0;"},
		{"-b", never, always, nil, math.MinInt, "r1", "picks -; most 0; late 0; stuck;"},
		// One at most.
		{"b", always, counted(1), nil, 1, "r0 s0", "picks 0; most 0; late 0; ended;"},
		{"b", always, counted(2), nil, 1, "r0 s0 r0", "picks 0; most 0; late 0;"},
		{"bb", always, counted(1, 1), []int{1}, 1, "r0 r1 s1 r0", "picks 1; most 0; late 0;"},
		{"bb", func(_, calls int) bool { return calls <= 2 }, counted(1, 1), []int{1}, 1, "r0 r1 s1 r0", "picks 1; most 0; late 0; stuck;"},
		// Just as many as are needed, one fewer, one more, and no end of them.
		{"bb", always, counted(1, 2), []int{1, 1, 1}, 3, "r0 r1 s1 r0 r1 s1 r0 s0", "picks 1 1 0; most 0; late 0; ended;"},
		{"bb", always, counted(1, 2), []int{1, 1, 1}, 2, "r0 r1 s1 r0 r1 s1 r0", "picks 1 1; most 0; late 0;"},
		{"bb", always, counted(1, 2), []int{1, 1, 1}, 4, "r0 r1 s1 r0 r1 s1 r0 s0", "picks 1 1 0; most 0; late 0; ended;"},
		{"bb", always, counted(1, 2), []int{1, 1, 1}, math.MaxInt, "r0 r1 s1 r0 r1 s1 r0 s0", "picks 1 1 0; most 0; late 0; ended;"},
		// Stuck, with room for more picks and with none: asked once more, and not twice.
		{"b", never, always, nil, 5, "r0", "picks -; most 0; late 0; stuck;"},
		{"bb", func(_, calls int) bool { return calls < 4 }, counted(0, 0), nil, 5, "r0 r1 s0 r0 r1", "picks 0; most 0; late 0; stuck;"},
		{"bb", func(_, calls int) bool { return calls < 4 }, counted(0, 0), nil, 1, "r0 r1 s0 r0 r1", "picks 0; most 0; late 0; stuck;"},
		// Of three that aren't all ready the script's number counts those alone that are.
		{"bbb", func(task, _ int) bool { return task != 1 }, counted(0, 0, 1), []int{1, 1}, 2, "r0 r1 r2 s2 r0 r1 s0 r0 r1", "picks 2 0; most 0; late 0;"},
		{"bbb", func(task, _ int) bool { return task != 0 }, counted(0, 2, 1), []int{0, 1, 7}, 9, "r0 r1 r2 s1 r0 r1 r2 s2 r0 r1 s1 r0", "picks 1 2 1; most 0; late 0; stuck;"},
		// Numbers below 0, far above, and a script that is too short: the first behind it.
		{"sss", always, counted(0, 0, 0), []int{-1, -2, -3, -4, 3, 4, 5, 302}, 10, "s2 s1 s0 s2 s0 s1 s2 s2 s0 s0", "picks 2 1 0 2 0 1 2 2 0 0; most 0; late 0;"},
		{"sss", always, counted(0, 0, 0), []int{math.MinInt, math.MaxInt, math.MinInt + 1}, 3, "s1 s1 s2", "picks 1 1 2; most 0; late 0;"},
	} {
		w := &world{kinds: c.kinds, ready: c.ready, ends: c.ends}
		h := loom.Run(w.tasks(), c.script, c.most)
		if got := strings.Join(w.log, " "); got != c.log {
			t.Errorf("tasks %q, script %v, most %d: the calls %s; want %s", c.kinds, c.script, c.most, got, c.log)
		}
		if got := strings.TrimSpace(inWords(h)); got != c.want || len(h.Taken) != 0 {
			t.Errorf("tasks %q, script %v, most %d: %s; want %s", c.kinds, c.script, c.most, got, c.want)
		}
	}
}

// rule: an answer that hangs on all its numbers; true of about so many in a hundred.
func rule(seed, task, calls, hundred int) bool {
	x := uint32(seed)*2654435761 + uint32(task)*40503 + uint32(calls)*97 + 12345
	x ^= x >> 15
	x *= 2246822519
	x ^= x >> 13
	return int(x%100) < hundred
}

// ruled: a world whose answers are by the rule.
func ruled(kinds string, seed, ready, ends int) *world {
	return &world{kinds: kinds,
		ready: func(task, calls int) bool { return rule(seed, task, calls, ready) },
		ends:  func(task, calls int) bool { return rule(seed+1, task, calls, ends) }}
}

// checkRun: whether Run of two worlds alike answers and calls as the words say; it answers the words' history.
func checkRun(t *testing.T, got, want *world, script []int, most int) api.History {
	t.Helper()
	a, b := loom.Run(got.tasks(), script, most), want.runWords(script, most)
	if !sameHistory(a, b) || len(a.Taken) != 0 {
		t.Fatalf("tasks %q, script %v, most %d: %s; want %s", want.kinds, script, most, inWords(a), inWords(b))
	}
	if !slices.Equal(got.log, want.log) {
		t.Fatalf("tasks %q, script %v, most %d: the calls %v; want %v", want.kinds, script, most, got.log, want.log)
	}
	return b
}

// kindsUpTo: all lists of at most so many tasks, of each of the four kinds.
func kindsUpTo(most int) []string {
	all := []string{""}
	for from := 0; most > 0; most-- {
		end := len(all)
		for _, s := range all[from:end] {
			for _, kind := range "bsr-" {
				all = append(all, s+string(kind))
			}
		}
		from = end
	}
	return all
}

// P19.1: all short lists of tasks of each kind, with functions whose answers hang on every call ahead of them.
func TestRunShortLists(t *testing.T) {
	ends := map[[2]bool]int{}
	for number, kinds := range kindsUpTo(4) {
		for seed := range 12 {
			script := []int{seed, -seed, number, 1, 2, 3, -1}[:seed%8]
			for _, most := range []int{-1, 0, 1, 2, 3, 5, 12, 40} {
				h := checkRun(t, ruled(kinds, seed, 60, 20), ruled(kinds, seed, 60, 20), script, most)
				ends[[2]bool{h.Ended, h.Stuck}]++
			}
		}
	}
	if ends[[2]bool{true, false}] < 100 || ends[[2]bool{false, true}] < 100 || ends[[2]bool{false, false}] < 100 || len(ends) != 3 {
		t.Errorf("how the runs went out, by ended and stuck: %v", ends)
	}
}

// someScript: numbers without a rule, small ones and great ones, below 0 and above.
func someScript(r *rand.Rand, n int) (script []int) {
	for range n {
		switch r.Intn(12) {
		case 0:
			script = append(script, int(r.Uint64()))
		case 1:
			script = append(script, outside[r.Intn(len(outside))])
		case 2, 3, 4:
			script = append(script, -r.Intn(300))
		default:
			script = append(script, r.Intn(300))
		}
	}
	return script
}

// P19.1: many tasks of all kinds, under scripts without a rule.
func TestRunManyTasks(t *testing.T) {
	r := rand.New(rand.NewSource(1911))
	for range 400 {
		kinds := make([]byte, r.Intn(200))
		for i := range kinds {
			kinds[i] = "bbbsr-"[r.Intn(6)]
		}
		seed, ready, ends := r.Int(), 3+r.Intn(97), 1+r.Intn(60)
		script := someScript(r, r.Intn(300))
		checkRun(t, ruled(string(kinds), seed, ready, ends), ruled(string(kinds), seed, ready, ends), script, r.Intn(600))
	}
}

// P19.1: the number of tasks and of picks is bound by nothing but most.
func TestRunLong(t *testing.T) {
	tasks := make([]loom.Task, 5000)
	done := make([]int, len(tasks))
	for i := range tasks {
		tasks[i].Step = func() bool { done[i]++; return done[i] == 2 }
	}
	if h := loom.Run(tasks, nil, 20000); !h.Ended || len(h.Picks) != 10000 || h.Picks[9999] != 4999 {
		t.Errorf("5000 tasks of two steps: %s", inWords(h))
	}
	n := 0
	count := loom.Task{Step: func() bool { n++; return n == 200000 }}
	if h := loom.Run([]loom.Task{count}, nil, math.MaxInt); !h.Ended || len(h.Picks) != 200000 {
		t.Errorf("a task of 200000 steps: %s", inWords(h))
	}
}

// P19.1: each script number, at each number of tasks that may be picked: the remainder that is from 0 on.
func TestRunEveryRemainder(t *testing.T) {
	tries := slices.Clone(outside)
	for x := -40; x <= 40; x++ {
		tries = append(tries, x)
	}
	for m := 1; m <= 130; m++ {
		kinds := strings.Repeat("s", m)
		for _, x := range tries {
			w := ruled(kinds, 1, 100, 0)
			if h := loom.Run(w.tasks(), []int{x}, 1); len(h.Picks) != 1 || h.Picks[0] != modulo(x, m) {
				t.Errorf("%d tasks, script %d: %s; want %d", m, x, inWords(h), modulo(x, m))
			}
		}
	}
}

// P19.1: tasks that hang on one another: one steps only where another has stepped.
func TestRunTasksInTurns(t *testing.T) {
	for _, script := range [][]int{nil, {1, 1, 1}, {-7, 5, 900}, someScript(rand.New(rand.NewSource(1912)), 100)} {
		turn, out := 0, ""
		var tasks []loom.Task
		for i := range 3 {
			tasks = append(tasks, loom.Task{
				Ready: func() bool { return turn%3 == i },
				Step:  func() bool { turn++; out += string(rune('a' + i)); return turn > 9 },
			})
		}
		if h := loom.Run(tasks, script, 100); out != "abcabcabcabc" || !h.Ended || numbers(h.Picks) != "0 1 2 0 1 2 0 1 2 0 1 2" {
			t.Errorf("script %v: %s, %s", script, out, inWords(h))
		}
	}
}

// P19.1: a Step may make runs of its own; each run is by itself.
func TestRunWithinRun(t *testing.T) {
	var inner []string
	outer := loom.Task{Step: func() bool {
		w := &world{kinds: "bs", ready: always, ends: counted(1, 1)}
		h := loom.Run(w.tasks(), []int{1}, 9)
		p, e := loom.Play(planOf([]int{1}, "set 7, put 0", "take 0 0"), nil)
		inner = append(inner, inWords(h), inWords(p), fmt.Sprint(int(e)))
		return len(inner) == 9
	}}
	h := loom.Run([]loom.Task{outer, {}}, nil, 9)
	want := "picks 1 0; most 0; late 0; ended;|picks 0 0 1; most 1; late 0; ended; - / 7|0"
	if got := strings.Join(inner, "|"); got != want+"|"+want+"|"+want || numbers(h.Picks) != "0 0 0" || !h.Ended {
		t.Errorf("%s; outside %s", got, inWords(h))
	}
}

// P19.4: the script alone: other numbers for the same picks, and numbers behind the last pick, give the same history and the same calls.
func TestRunScriptAlone(t *testing.T) {
	r := rand.New(rand.NewSource(1914))
	for range 300 {
		kinds := make([]byte, 1+r.Intn(6))
		for i := range kinds {
			kinds[i] = "bbs"[r.Intn(3)]
		}
		seed, most := r.Int(), r.Intn(80)
		script := make([]int, most+5)
		for i := range script {
			script[i] = r.Intn(60)
		}
		first := ruled(string(kinds), seed, 70, 5)
		h := loom.Run(first.tasks(), script, most)
		other := slices.Clone(script)
		for i := range other {
			// Up to six tasks may be picked: a multiple of 60 tells the same one.
			other[i] += 60 * (r.Intn(2000) - 1000)
			if i >= len(h.Picks) {
				other[i] = int(r.Uint64())
			}
		}
		for _, s := range [][]int{other, script[:len(h.Picks)], other[:len(h.Picks)], append(slices.Clone(other), someScript(r, 50)...)} {
			again := ruled(string(kinds), seed, 70, 5)
			if g := loom.Run(again.tasks(), s, most); !sameHistory(g, h) || !slices.Equal(again.log, first.log) {
				t.Fatalf("tasks %q, script %v: %s; by %v: %s", kinds, script, inWords(h), s, inWords(g))
			}
		}
	}
}
