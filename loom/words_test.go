package loom_test

import (
	"fmt"
	"math"
	"math/big"
	"slices"
	"strconv"
	"strings"
	"testing"

	"churn/api"
	"churn/loom"
)

// opNames: the operations' names, each at its number.
var opNames = []string{"", "put", "take", "close", "set", "add", "jump", "unless", "choose", "wait", "end"}

// opsOf: operations from a text, as in "set 7, put 0, close 0".
func opsOf(text string) (ops []api.Op) {
	if text == "" {
		return nil
	}
	for one := range strings.SplitSeq(text, ", ") {
		parts := strings.Fields(one)
		op := api.Op{Kind: slices.Index(opNames, parts[0])}
		for i, number := range parts[1:] {
			x, err := strconv.Atoi(number)
			if err != nil || op.Kind < 0 || i > 1 {
				panic("no operation: " + one)
			}
			if i == 0 {
				op.A = x
			} else {
				op.B = x
			}
		}
		ops = append(ops, op)
	}
	return ops
}

// planOf: a plan from its ducts' capacities and each task's text.
func planOf(caps []int, tasks ...string) api.Plan {
	p := api.Plan{Caps: caps}
	for _, text := range tasks {
		p.Tasks = append(p.Tasks, opsOf(text))
	}
	return p
}

// textOf: a plan as a text, for what a test tells.
func textOf(p api.Plan) string {
	var b strings.Builder
	fmt.Fprint(&b, "caps ", p.Caps)
	for _, ops := range p.Tasks {
		b.WriteString(" |")
		for _, op := range ops {
			if op.Kind < 1 || op.Kind > 10 {
				fmt.Fprintf(&b, " kind %d %d %d,", op.Kind, op.A, op.B)
			} else {
				fmt.Fprintf(&b, " %s %d %d,", opNames[op.Kind], op.A, op.B)
			}
		}
	}
	if b.Len() > 600 {
		return b.String()[:600] + " .."
	}
	return b.String()
}

// modulo: the remainder from 0 to m - 1, also of a negative number.
func modulo(x, m int) int {
	return int(new(big.Int).Mod(big.NewInt(int64(x)), big.NewInt(int64(m))).Int64())
}

// picked: of those that may be picked the one that pick number k takes.
func picked(may, script []int, k int) int {
	if k < len(script) {
		return may[modulo(script[k], len(may))]
	}
	return may[0]
}

// A played is a plan's run by the words of the chapter: every question goes through all tasks and all ducts anew. Beside the history it writes down what the promises speak of.
type played struct {
	plan     api.Plan
	places   []int
	ends     []bool // an OpEnd was done, or an OpChoose told a place that there isn't
	register []int
	things   [][]int
	closed   []bool
	history  api.History

	counts []int   // ahead of each pick: how many could be picked
	put    [][]int // of each duct: what went into it, or through it, in order
	took   [][]int // of each duct: what was taken from it, in order
	held   []int   // of each duct: the most that it held behind a pick
	met    int     // how many meetings there were
	rows   map[string]int
}

func newPlayed(p api.Plan) *played {
	n, d := len(p.Tasks), len(p.Caps)
	return &played{plan: p, places: make([]int, n), ends: make([]bool, n), register: make([]int, n), things: make([][]int, d), closed: make([]bool, d),
		history: api.History{Taken: make([][]int, n)}, put: make([][]int, d), took: make([][]int, d), held: make([]int, d), rows: map[string]int{}}
}

func (w *played) ended(task int) bool {
	return w.ends[task] || w.places[task] == len(w.plan.Tasks[task])
}

func (w *played) at(task int) api.Op { return w.plan.Tasks[task][w.places[task]] }

// canMeet: can these two meet over duct d, the first giving and the second taking?
func (w *played) canMeet(giver, taker, d int) bool {
	if w.plan.Caps[d] != 0 || w.closed[d] || w.ended(giver) || w.ended(taker) {
		return false
	}
	give, take := w.at(giver), w.at(taker)
	takes := take.Kind == 2 && take.A == d || take.Kind == 8 && (take.A == d || take.B == d)
	return give.Kind == 1 && give.A == d && takes
}

// taker: the lowest-numbered task that can meet this giver over d; -1: none.
func (w *played) taker(giver, d int) int {
	for other := range w.places {
		if w.canMeet(giver, other, d) {
			return other
		}
	}
	return -1
}

// giver: the lowest-numbered task that can meet this taker over d; -1: none.
func (w *played) giver(taker, d int) int {
	for other := range w.places {
		if w.canMeet(other, taker, d) {
			return other
		}
	}
	return -1
}

func (w *played) ready(task, d int) bool { return len(w.things[d]) > 0 || w.giver(task, d) >= 0 }

func (w *played) spent(d int) bool { return w.closed[d] && len(w.things[d]) == 0 }

// may: may the task be picked?
func (w *played) may(task int) bool {
	if w.ended(task) {
		return false
	}
	op := w.at(task)
	switch op.Kind {
	case 1:
		return w.closed[op.A] || len(w.things[op.A]) < w.plan.Caps[op.A] || w.taker(task, op.A) >= 0
	case 2:
		return len(w.things[op.A]) > 0 || w.closed[op.A] || w.giver(task, op.A) >= 0
	case 8:
		return w.ready(task, op.A) || w.ready(task, op.B) || w.spent(op.A) && w.spent(op.B)
	case 9:
		return w.ended(op.A)
	}
	return true
}

func (w *played) allThatMay() (list []int) {
	for task := range w.places {
		if w.may(task) {
			list = append(list, task)
		}
	}
	return list
}

func (w *played) allEnded() bool {
	for task := range w.places {
		if !w.ended(task) {
			return false
		}
	}
	return true
}

// takes: the task takes the number x from duct d.
func (w *played) takes(task, d, x int) {
	w.register[task] = x
	w.history.Taken[task] = append(w.history.Taken[task], x)
	w.took[d] = append(w.took[d], x)
}

// meeting: the number passes from hand to hand; both on.
func (w *played) meeting(giver, taker, d int, row string) {
	if w.at(taker).Kind == 8 {
		row += " at a choose"
	}
	w.rows[row]++
	w.met++
	w.put[d] = append(w.put[d], w.register[giver])
	w.takes(taker, d, w.register[giver])
	w.places[giver]++
	w.places[taker]++
}

// takesFrom: the task takes from d, which is ready for it.
func (w *played) takesFrom(task, d int, row string) {
	if len(w.things[d]) > 0 {
		w.rows[row]++
		x := w.things[d][0]
		w.things[d] = slices.Clone(w.things[d][1:])
		w.takes(task, d, x)
		w.places[task]++
		return
	}
	w.meeting(w.giver(task, d), task, d, row+" meets")
}

// pick: what the pick of the task does, row by row of the table.
func (w *played) pick(task int) {
	op := w.at(task)
	switch op.Kind {
	case 1:
		w.pickPut(task, op.A)
	case 2:
		if w.spent(op.A) {
			w.rows["take of a spent duct"]++
			w.places[task] = op.B
			return
		}
		w.takesFrom(task, op.A, "take")
	case 3:
		if w.closed[op.A] {
			w.rows["second close"]++
			w.history.Late++
		}
		w.closed[op.A] = true
		w.places[task]++
	case 4:
		w.register[task] = op.A
		w.places[task]++
	case 5:
		w.register[task] += op.A
		w.places[task]++
	case 6:
		w.places[task] = op.A
	case 7:
		if w.register[task] != op.B {
			w.rows["unless jumps"]++
			w.places[task] = op.A
		} else {
			w.rows["unless on"]++
			w.places[task]++
		}
	case 8:
		w.pickChoose(task, op)
	case 9:
		w.rows["wait"]++
		w.places[task]++
	case 10:
		w.rows["end"]++
		w.ends[task] = true
	}
}

func (w *played) pickPut(task, d int) {
	switch {
	case w.closed[d]:
		w.rows["late put"]++
		w.history.Late++
		w.places[task]++
	case len(w.things[d]) < w.plan.Caps[d]:
		w.rows["put"]++
		w.things[d] = slices.Concat(w.things[d], []int{w.register[task]})
		w.put[d] = append(w.put[d], w.register[task])
		w.places[task]++
	default:
		w.meeting(task, w.taker(task, d), d, "put meets")
	}
}

func (w *played) pickChoose(task int, op api.Op) {
	switch {
	case w.ready(task, op.A):
		row := "choose of A"
		if w.ready(task, op.B) {
			row = "choose of both"
		}
		w.takesFrom(task, op.A, row)
	case w.ready(task, op.B):
		w.takesFrom(task, op.B, "choose of B")
	case w.register[task] < 0 || w.register[task] > len(w.plan.Tasks[task]):
		w.rows["choose of spent ducts ends"]++
		w.ends[task] = true
	default:
		w.rows["choose of spent ducts jumps"]++
		w.places[task] = w.register[task]
	}
}

// playWords: a plan's run by the chapter's words; at most so many picks.
func playWords(p api.Plan, script []int, most int) *played {
	w := newPlayed(p)
	for {
		may := w.allThatMay()
		w.history.Ended = w.allEnded()
		w.history.Stuck = !w.history.Ended && len(may) == 0
		if len(may) == 0 || len(w.history.Picks) == most {
			return w
		}
		w.counts = append(w.counts, len(may))
		task := picked(may, script, len(w.history.Picks))
		w.history.Picks = append(w.history.Picks, task)
		w.pick(task)
		w.weigh()
	}
}

// weigh: what lies in the ducts behind a pick.
func (w *played) weigh() {
	all := 0
	for d, list := range w.things {
		all += len(list)
		w.held[d] = max(w.held[d], len(list))
	}
	w.history.Most = max(w.history.Most, all)
}

// sameHistory: alike, but that an empty list is nil or empty.
func sameHistory(a, b api.History) bool {
	return slices.Equal(a.Picks, b.Picks) && a.Most == b.Most && a.Ended == b.Ended && a.Stuck == b.Stuck && a.Late == b.Late && slices.EqualFunc(a.Taken, b.Taken, slices.Equal[[]int])
}

// zeroHistory: is nothing in it?
func zeroHistory(h api.History) bool { return len(h.Taken) == 0 && sameHistory(h, api.History{}) }

// inWords: a history as a text.
func inWords(h api.History) string {
	var b strings.Builder
	if len(h.Picks) > 40 {
		fmt.Fprintf(&b, "%d picks", len(h.Picks))
	} else {
		fmt.Fprintf(&b, "picks %s", numbers(h.Picks))
	}
	fmt.Fprintf(&b, "; most %d; late %d;", h.Most, h.Late)
	if h.Ended {
		b.WriteString(" ended;")
	}
	if h.Stuck {
		b.WriteString(" stuck;")
	}
	for i, list := range h.Taken {
		if i > 0 {
			b.WriteString(" /")
		}
		b.WriteString(" " + numbers(list))
	}
	return b.String()
}

// numbers: a list as a text; a dash for none.
func numbers(list []int) string {
	if len(list) == 0 {
		return "-"
	}
	return strings.Trim(fmt.Sprint(list), "[]")
}

// checkPlay: whether Play answers as the words say; it answers the words' run.
func checkPlay(t testing.TB, p api.Plan, script []int) *played {
	t.Helper()
	want := playWords(p, script, 65536)
	got, e := loom.Play(p, script)
	if e != api.OK || !sameHistory(got, want.history) {
		t.Fatalf("%s, script %v: %s, error %d; want %s", textOf(p), script[:min(len(script), 60)], inWords(got), e, inWords(want.history))
	}
	return want
}

// outside: numbers far off, those among them that would be small if they were cut to fewer bits or their sign left out.
var outside = []int{-1025, -1026, -2048, -4096, -1 << 16, 1 - 1<<16, -1 << 31, -1<<31 - 1, 1 - 1<<32, -1 << 32, -1 << 62, math.MinInt, math.MinInt + 1, math.MinInt + 1024,
	1025, 1026, 1280, 2048, 4096, 1 << 16, 1<<16 + 1, 1<<31 - 1, 1 << 31, 1<<31 + 1, 1<<32 - 1, 1 << 32, 1<<32 + 1, 1<<32 + 10, 1<<62 + 2, math.MaxInt - 1023, math.MaxInt - 1, math.MaxInt}
