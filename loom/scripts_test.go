package loom_test

import (
	"fmt"
	"math/rand"
	"slices"
	"sort"
	"testing"

	"churn/api"
	"churn/loom"
)

// somePlace: mostly a place further on, now and then any.
func somePlace(r *rand.Rand, place, ops int) int {
	if r.Intn(8) == 0 {
		return r.Intn(ops + 1)
	}
	return place + 1 + r.Intn(ops-place)
}

// someOp: an operation without a rule, right for its place.
func someOp(r *rand.Rand, place, ops, ducts, tasks int) api.Op {
	kinds := []int{4, 5, 6, 7, 9, 10}
	if ducts > 0 {
		kinds = []int{1, 1, 1, 1, 1, 2, 2, 2, 2, 2, 8, 8, 8, 3, 4, 4, 4, 5, 5, 6, 7, 9, 10}
	}
	op := api.Op{Kind: kinds[r.Intn(len(kinds))]}
	switch op.Kind {
	case 1, 3:
		op.A = r.Intn(ducts)
	case 2:
		op.A, op.B = r.Intn(ducts), somePlace(r, place, ops)
	case 4, 5:
		op.A = r.Intn(ops+8) - 4
		if r.Intn(10) == 0 {
			op.A = r.Intn(2049) - 1024
		}
	case 6:
		op.A = somePlace(r, place, ops)
	case 7:
		op.A, op.B = somePlace(r, place, ops), r.Intn(5)-1
	case 8:
		op.A, op.B = r.Intn(ducts), r.Intn(ducts)
	case 9:
		op.A = r.Intn(tasks)
	}
	return op
}

// somePlan: a plan without a rule, of at most so many ducts, tasks, and operations of a task.
func somePlan(r *rand.Rand, ducts, tasks, ops int) api.Plan {
	var p api.Plan
	for range r.Intn(ducts + 1) {
		p.Caps = append(p.Caps, []int{0, 0, 0, 1, 1, 2, 3, 7, 1024}[r.Intn(9)])
	}
	n := r.Intn(tasks + 1)
	for range n {
		list := make([]api.Op, r.Intn(ops+1))
		for place := range list {
			list[place] = someOp(r, place, len(list), len(p.Caps), n)
		}
		p.Tasks = append(p.Tasks, list)
	}
	return p
}

// closes: does a task of it close a duct?
func closes(p api.Plan) bool {
	for _, ops := range p.Tasks {
		for _, op := range ops {
			if op.Kind == api.OpClose {
				return true
			}
		}
	}
	return false
}

// checkKept: what every schedule keeps, of a run whose history was Play's.
func checkKept(t *testing.T, p api.Plan, w *played) {
	t.Helper()
	for d, capacity := range p.Caps {
		if w.held[d] > capacity {
			t.Errorf("%s: duct %d held %d", textOf(p), d, w.held[d])
		}
		if took := w.took[d]; len(took) > len(w.put[d]) || !slices.Equal(took, w.put[d][:len(took)]) {
			t.Errorf("%s: into duct %d went %v, and out of it %v", textOf(p), d, w.put[d], took)
		}
	}
	if !closes(p) && w.history.Late != 0 {
		t.Errorf("%s: Late is %d, and nobody closes a duct", textOf(p), w.history.Late)
	}
}

// P19.2 and P19.3: many plans drawn, under many scripts; each row of the table must come up often.
func TestSomePlans(t *testing.T) {
	r := rand.New(rand.NewSource(1920))
	plans, rows, ends, met, endless := 6000, map[string]int{}, map[string]int{}, 0, 0
	if testing.Short() {
		plans = 1500
	}
	for range plans {
		p := somePlan(r, 4, 7, 12)
		for range 6 {
			script := someScript(r, r.Intn(60))
			if w := playWords(p, script, 400); !w.history.Ended && !w.history.Stuck {
				// Runs without an end take long: a few of them are enough.
				if endless++; endless > 25 {
					break
				}
			}
			w := checkPlay(t, p, script)
			checkKept(t, p, w)
			met += w.met
			ends[fmt.Sprint(w.history.Ended, w.history.Stuck)]++
			for row, n := range w.rows {
				rows[row] += n
			}
		}
	}
	if len(rows) != 20 || len(ends) != 3 || met < plans/2 {
		t.Errorf("%d rows, %d meetings; %v, %v", len(rows), met, rows, ends)
	}
	for row, n := range rows {
		if n < 40 {
			t.Errorf("%s: no more than %d times", row, n)
		}
	}
}

// greatPlan: a plan at all limits: every other task puts, and every other one takes and chooses, wherever it comes.
func greatPlan(r *rand.Rand, caps []int) api.Plan {
	var p api.Plan
	for range 64 {
		p.Caps = append(p.Caps, caps[r.Intn(len(caps))])
	}
	for task := range 128 {
		ops := make([]api.Op, 256)
		for place := range ops {
			kind := []int{api.OpPut, api.OpPut, api.OpPut, api.OpAdd}[r.Intn(4)]
			if task%2 == 1 {
				kind = []int{api.OpTake, api.OpChoose, api.OpChoose, api.OpChoose}[r.Intn(4)]
			}
			ops[place] = api.Op{Kind: kind, A: r.Intn(64), B: r.Intn(64)}
		}
		p.Tasks = append(p.Tasks, ops)
	}
	return p
}

// P19.2: plans at the limits, tasks and ducts and operations as many as there may be; over ducts of capacity 0 alone, and over others too.
func TestGreatPlans(t *testing.T) {
	r := rand.New(rand.NewSource(1921))
	for _, caps := range [][]int{{0}, {0, 1, 2, 1024}, {1, 3}} {
		p := greatPlan(r, caps)
		w := checkPlay(t, p, someScript(r, 3000))
		checkKept(t, p, w)
		if len(w.history.Picks) < 500 {
			t.Errorf("capacities %v: no more than %d picks", caps, len(w.history.Picks))
		}
	}
}

// everySchedule: the runs of all schedules of a plan, each once; it answers how many there are. Each run must be over behind so many picks.
func everySchedule(t *testing.T, p api.Plan, most int, visit func(script []int, w *played)) int {
	t.Helper()
	var script []int
	for n := 1; ; n++ {
		w := playWords(p, script, most)
		if len(w.history.Picks) == most {
			t.Fatalf("%s: it goes on behind %d picks", textOf(p), most)
		}
		visit(script, w)
		for len(script) < len(w.counts) {
			script = append(script, 0)
		}
		for len(script) > 0 && script[len(script)-1]+1 == w.counts[len(script)-1] {
			script = script[:len(script)-1]
		}
		if len(script) == 0 {
			return n
		}
		script[len(script)-1]++
	}
}

// P19.2, P19.3 and P19.4: all schedules of some plans: how many there are, each by the words, and no two alike.
func TestEverySchedule(t *testing.T) {
	for _, c := range []struct {
		plan api.Plan
		want int // 0: it isn't known
	}{
		{planOf(nil), 1},
		{planOf(nil, "set 1, set 2, set 3"), 1},
		{planOf(nil, "set 1, set 2, set 3", "set 1, set 2, set 3"), 20},
		{planOf(nil, "set 1, set 2", "set 1, set 2", "set 1, set 2"), 90},
		{planOf(nil, "set 1, wait 1", "set 1, set 2, set 3"), 4},
		{pair(0), 2},
		{pair(1), 2},
		{planOf([]int{0}, "set 1, put 0, set 2, put 0", "take 0 0, take 0 0"), 4},
		{planOf([]int{0}, "set 1, put 0, add 1, put 0, close 0", "take 0 2, jump 0", "take 0 2, jump 0"), 0},
		{planOf([]int{1}, "set 1, put 0, add 1, put 0, close 0", "take 0 2, jump 0", "take 0 2, jump 0"), 0},
		{planOf([]int{2, 1}, "set 1, put 0, add 1, put 0, close 0", "take 0 3, put 1, jump 0, close 1", "take 1 2, jump 0"), 0},
		{planOf([]int{0, 0}, "set 1, put 0, set 2, put 1", "set 3, put 1, set 4, put 0", "choose 0 1, choose 1 0, choose 0 1"), 0},
		{planOf([]int{1, 0}, "set 1, put 0, set 2, put 1", "set 3, put 1, close 1", "choose 0 1, choose 1 0", "close 0"), 0},
	} {
		seen := map[string]bool{}
		n := everySchedule(t, c.plan, 60, func(script []int, w *played) {
			checkPlay(t, c.plan, script)
			checkKept(t, c.plan, w)
			seen[fmt.Sprint(w.history.Picks)] = true
		})
		if len(seen) != n || c.want > 0 && n != c.want {
			t.Errorf("%s: %d schedules, %d lists of picks; want %d", textOf(c.plan), n, len(seen), c.want)
		}
	}
}

// shortTasks: all lists of at most two of these operations.
func shortTasks() (list [][]api.Op) {
	all := opsOf("put 0, take 0 9, close 0, set 1, add -1, choose 0 0, wait 0, wait 1, end, jump 9, unless 9 1")
	list = append(list, nil)
	for _, first := range all {
		list = append(list, []api.Op{first})
		for _, second := range all {
			list = append(list, []api.Op{first, second})
		}
	}
	for _, ops := range list {
		for i := range ops {
			// 9 stands for the end.
			if ops[i].A == 9 {
				ops[i].A = len(ops)
			}
			if ops[i].B == 9 {
				ops[i].B = len(ops)
			}
		}
	}
	return list
}

// P19.2 and P19.3: all short plans of two tasks over one duct, under all schedules.
func TestShortPlans(t *testing.T) {
	tasks := shortTasks()
	for capacity := range 3 {
		for i, one := range tasks {
			for j, other := range tasks {
				if testing.Short() && (i+j)%5 != 0 {
					continue
				}
				p := api.Plan{Caps: []int{capacity}, Tasks: [][]api.Op{one, other}}
				if len(playWords(p, nil, 30).history.Picks) == 30 || len(playWords(p, []int{1, 1, 1, 1, 1, 1}, 30).history.Picks) == 30 {
					// It goes round, by a choose that tells place 0.
					continue
				}
				everyShort(t, p)
			}
		}
	}
}

// everyShort: all schedules of a short plan, but for those that go round.
func everyShort(t *testing.T, p api.Plan) {
	t.Helper()
	for bits := range 16 {
		script := []int{bits & 1, bits >> 1 & 1, bits >> 2 & 1, bits >> 3 & 1}
		if w := playWords(p, script, 30); len(w.history.Picks) < 30 {
			checkKept(t, p, checkPlay(t, p, script))
		}
	}
}

// P19.3: plans without jumps and closes over ducts with a capacity: there pick by pick a task's next operation is done, so the picks alone tell what was put when. What was taken must be that, each once, in that order; and no duct may hold more than its capacity.
func TestKeptByThePicks(t *testing.T) {
	r := rand.New(rand.NewSource(1930))
	for range 1500 {
		p := api.Plan{}
		for range 1 + r.Intn(3) {
			p.Caps = append(p.Caps, 1+r.Intn(4))
		}
		next := 0
		for range 1 + r.Intn(6) {
			var ops []api.Op
			for range r.Intn(20) {
				d := r.Intn(len(p.Caps))
				if r.Intn(2) == 0 {
					next++
					ops = append(ops, api.Op{Kind: api.OpSet, A: next}, api.Op{Kind: api.OpPut, A: d})
				} else {
					ops = append(ops, api.Op{Kind: api.OpTake, A: d, B: 0})
				}
			}
			p.Tasks = append(p.Tasks, ops)
		}
		h, e := loom.Play(p, someScript(r, 100))
		if e != api.OK || h.Late != 0 {
			t.Fatalf("%s: error %d, Late %d", textOf(p), e, h.Late)
		}
		checkByPicks(t, p, h)
	}
}

// checkByPicks: the history of a plan without jumps, closes and meetings, followed by its picks.
func checkByPicks(t *testing.T, p api.Plan, h api.History) {
	t.Helper()
	places, took := make([]int, len(p.Tasks)), make([]int, len(p.Tasks))
	ducts := make([][]int, len(p.Caps))
	register := make([]int, len(p.Tasks))
	most := 0
	for k, task := range h.Picks {
		op := p.Tasks[task][places[task]]
		places[task]++
		switch op.Kind {
		case api.OpSet:
			register[task] = op.A
		case api.OpPut:
			ducts[op.A] = append(ducts[op.A], register[task])
		case api.OpTake:
			if len(ducts[op.A]) == 0 || took[task] == len(h.Taken[task]) || h.Taken[task][took[task]] != ducts[op.A][0] {
				t.Fatalf("%s: pick %d, task %d: out of %v was taken number %d of %v", textOf(p), k, task, ducts[op.A], took[task], h.Taken[task])
			}
			took[task]++
			ducts[op.A] = ducts[op.A][1:]
		}
		lying := 0
		for d := range ducts {
			if lying += len(ducts[d]); len(ducts[d]) > p.Caps[d] {
				t.Fatalf("%s: behind pick %d duct %d holds %d", textOf(p), k, d, len(ducts[d]))
			}
		}
		most = max(most, lying)
	}
	if most != h.Most {
		t.Errorf("%s: Most is %d; want %d", textOf(p), h.Most, most)
	}
	for task := range places {
		if took[task] != len(h.Taken[task]) {
			t.Errorf("%s: task %d took %v, and the picks tell %d of them", textOf(p), task, h.Taken[task], took[task])
		}
	}
}

// P19.3: one task puts the numbers from 1 on, one takes, and others are about: what was taken is a beginning of what was put, whatever the script.
func TestOnePutsOneTakes(t *testing.T) {
	r := rand.New(rand.NewSource(1931))
	for _, capacity := range []int{0, 0, 1, 2, 5, 40} {
		for _, putter := range []string{"add 1, put 0, unless 0 30, close 0", "add 1, put 0, unless 0 30, end", "set 1, put 0, add 1, put 0, add 1, put 0, add 1, put 0"} {
			for _, taker := range []string{"take 0 2, jump 0", "take 0 0, take 0 0, take 0 0", "choose 0 1, jump 0", "choose 1 0, jump 0", "wait 0, take 0 3, jump 1", "take 0 3, take 0 3, end", "choose 0 0, set 4, jump 0, end"} {
				for _, other := range []string{"", "close 0", "set 1, set 1, set 1, set 1, set 1, set 1, close 0, close 1", "wait 0, close 0, close 1", "wait 1, close 0"} {
					for range 6 {
						p := planOf([]int{capacity, 2}, putter, taker, other)
						checkBeginning(t, p, someScript(r, r.Intn(120)))
					}
				}
			}
		}
	}
}

// checkBeginning: whether task 1 took the numbers from 1 on, so far as it came, and no other task took any.
func checkBeginning(t *testing.T, p api.Plan, script []int) {
	t.Helper()
	h, e := loom.Play(p, script)
	if e != api.OK || len(h.Taken) != 3 || len(h.Taken[0])+len(h.Taken[2]) > 0 || !slices.Equal(h.Taken[1], upTo(len(h.Taken[1]))) {
		t.Fatalf("%s, script %v: %s, error %d", textOf(p), script, inWords(h), e)
	}
	if h.Most > p.Caps[0] {
		t.Fatalf("%s, script %v: Most is %d", textOf(p), script, h.Most)
	}
	if len(h.Picks) < 65536 {
		checkPlay(t, p, script)
	}
}

// P19.3: many put and many take: each number comes out once, and those of one task come to each other one in their order.
func TestManyPutManyTake(t *testing.T) {
	r := rand.New(rand.NewSource(1932))
	for range 600 {
		putters, takers, each := 1+r.Intn(5), 1+r.Intn(5), 1+r.Intn(9)
		p := api.Plan{Caps: []int{r.Intn(4)}}
		for i := range putters {
			var ops []api.Op
			for x := range each {
				ops = append(ops, api.Op{Kind: api.OpSet, A: 100*i + x}, api.Op{Kind: api.OpPut})
			}
			p.Tasks = append(p.Tasks, ops)
		}
		for range takers {
			// A take, or a choose, without an end.
			p.Tasks = append(p.Tasks, append([]api.Op{{Kind: []int{api.OpTake, api.OpChoose}[r.Intn(2)]}}, opsOf("jump 0")...))
		}
		r.Shuffle(len(p.Tasks), func(i, j int) { p.Tasks[i], p.Tasks[j] = p.Tasks[j], p.Tasks[i] })
		h, e := loom.Play(p, someScript(r, r.Intn(150)))
		if e != api.OK || !h.Stuck || h.Late != 0 || h.Most > p.Caps[0] {
			t.Fatalf("%s: %s, error %d", textOf(p), inWords(h), e)
		}
		var all []int
		for _, list := range h.Taken {
			all = append(all, list...)
			last := map[int]int{}
			for _, x := range list {
				if before, is := last[x/100]; is && before >= x {
					t.Fatalf("%s: %d was taken behind %d", textOf(p), x, before)
				}
				last[x/100] = x
			}
		}
		sort.Ints(all)
		if len(all) != putters*each || len(slices.Compact(all)) != putters*each {
			t.Fatalf("%s: of %d numbers each once: %v", textOf(p), putters*each, all)
		}
	}
}

// P19.3: numbers through a row of tasks, each with a duct to the next, come out at its end as they went in.
func TestRowOfTasks(t *testing.T) {
	r := rand.New(rand.NewSource(1933))
	for range 60 {
		n := 1 + r.Intn(20)
		p := api.Plan{Tasks: [][]api.Op{opsOf("add 1, put 0, unless 0 25, close 0")}}
		for i := range n {
			p.Caps = append(p.Caps, r.Intn(4))
			p.Tasks = append(p.Tasks, opsOf(fmt.Sprintf("take %d 3, put %d, jump 0, close %d", i, i+1, i+1)))
		}
		p.Caps = append(p.Caps, 1)
		p.Tasks = append(p.Tasks, opsOf(fmt.Sprintf("take %d 2, jump 0", n)))
		h, e := loom.Play(p, someScript(r, r.Intn(2000)))
		if e != api.OK || !h.Ended || h.Late != 0 {
			t.Fatalf("%s: %s, error %d", textOf(p), inWords(h), e)
		}
		for task, list := range h.Taken {
			if want := upTo(25); task > 0 && !slices.Equal(list, want) {
				t.Errorf("%s: task %d took %v", textOf(p), task, list)
			}
		}
	}
}

// P19.4: other numbers for the same picks, and numbers behind the last pick, give the same history.
func TestScriptAlone(t *testing.T) {
	r := rand.New(rand.NewSource(1940))
	for range 1500 {
		p := somePlan(r, 3, 6, 10)
		script := make([]int, r.Intn(90))
		for i := range script {
			script[i] = r.Intn(60)
		}
		h, e := loom.Play(p, script)
		if e != api.OK || len(h.Picks) == 65536 {
			continue
		}
		other := slices.Clone(script)
		for i := range other {
			// Up to six tasks may be picked: a multiple of 60 tells the same one.
			other[i] += 60 * (r.Intn(2000) - 1000)
		}
		used := min(len(script), len(h.Picks))
		for len(other) < len(h.Picks) {
			// Behind the script's end it is the first one.
			other = append(other, 60*(r.Intn(2000)-1000))
		}
		other = append(other[:len(h.Picks)], someScript(r, r.Intn(40))...)
		for _, s := range [][]int{other, other[:len(h.Picks)], script[:used], append(slices.Clone(script[:used]), make([]int, 100)...), append(slices.Clone(other), 1, 2, 3, -1)} {
			if g, e := loom.Play(p, s); e != api.OK || !sameHistory(g, h) {
				t.Fatalf("%s, script %v: %s; by %v: %s", textOf(p), script, inWords(h), s, inWords(g))
			}
		}
		checkTold(t, p, script, h)
	}
}

// checkTold: the script that tells each pick by its number among those that may be picked gives the same history, and one that tells another one somewhere gives other picks.
func checkTold(t *testing.T, p api.Plan, script []int, h api.History) {
	t.Helper()
	counts := playWords(p, script, 65536).counts
	told := make([]int, len(counts))
	for k, m := range counts {
		if k < len(script) {
			told[k] = modulo(script[k], m)
		}
	}
	if g, e := loom.Play(p, told); e != api.OK || !sameHistory(g, h) {
		t.Fatalf("%s, script %v: %s; by %v: %s", textOf(p), script, inWords(h), told, inWords(g))
	}
	for k, m := range counts {
		if m < 2 {
			continue
		}
		turned := slices.Clone(told[:k+1])
		turned[k]++
		if g, _ := loom.Play(p, turned); len(g.Picks) <= k || !slices.Equal(g.Picks[:k], h.Picks[:k]) || g.Picks[k] == h.Picks[k] {
			t.Fatalf("%s: by %v: %s; by %v: %s", textOf(p), told, inWords(h), turned, inWords(g))
		}
	}
}

// P19.4: scripts of every length of a run's own picks: the picks so far are the run's, whatever comes behind.
func TestScriptsCutShort(t *testing.T) {
	p := planOf([]int{2, 0}, "add 1, put 0, unless 0 9, close 0", "take 0 3, put 1, jump 0, close 1", "take 1 2, jump 0")
	whole := []int{2, 1, 5, -1, 1, 1, 0, 7, 1, 1, 1, 2, 2, 0, 1, -3, 1, 1, 2, 0, 1, 1, 1, 1, 1}
	full := checkPlay(t, p, whole).history
	for n := range whole {
		h := checkPlay(t, p, whole[:n]).history
		if !slices.Equal(h.Picks[:n], full.Picks[:n]) || numbers(h.Taken[2]) != "1 2 3 4 5 6 7 8 9" {
			t.Errorf("%d numbers of the script: %s", n, inWords(h))
		}
	}
}
