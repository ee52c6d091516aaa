package line_test

import (
	"math"
	"math/rand"
	"slices"
	"testing"

	"churn/api"
)

// everySchedule: one script for each way in which the run can be picked, at most so many; each tells every pick.
func everySchedule(g given, most int, visit func(script []int, m *model)) int {
	n := 0
	var script []int
	for n < most {
		m := g.words(script)
		n++
		visit(slices.Clone(script), m)
		// The next one: the last pick that could have been of a later task is, and what follows is of the first.
		script = append(script, make([]int, len(m.picks)-len(script))...)
		for len(script) > 0 && script[len(script)-1]+1 == m.counts[len(script)-1] {
			script = script[:len(script)-1]
		}
		if len(script) == 0 {
			return n
		}
		script[len(script)-1]++
	}
	return n
}

// P22.1 to P22.4: small rounds in every schedule that there is: no run stands still, and each has the one outcome and the words' history.
func TestEverySchedule(t *testing.T) {
	most := 2500
	if testing.Short() {
		most = 200
	}
	whole := 0
	for _, x := range []struct{ n, workers, chunks, capacity int }{
		{0, 1, 1, 0}, {0, 1, 1, 1}, {1, 1, 1, 0}, {1, 1, 1, 1}, {2, 1, 1, 0}, {2, 1, 2, 0}, {2, 1, 1, 1}, {3, 1, 1, 0}, {0, 2, 2, 0}, {1, 2, 1, 0}, {0, 3, 1, 0}, {0, 2, 1, 1}, {2, 2, 1, 0}, {3, 1, 2, 1}, {2, 2, 2, 1},
	} {
		for _, short := range []bool{false, true} {
			g := batch(quiet(x.workers, x.chunks, x.capacity), cells[:x.n])
			g.tape = g.tape[:200]
			if short {
				g.tape = g.tape[:17]
			}
			want := g.mix()
			n := everySchedule(g, most, func(script []int, m *model) {
				o, h := g.run(script...)
				if !sameOutcome(o, want) || !sameHistory(h, m.history()) {
					t.Errorf("%v, script %v: %s, %+v; want %s, %+v", g, script, told(o), h, told(want), m.history())
				}
				checkPromises(t, g, o, h)
				if len(m.wrong) > 0 {
					t.Errorf("%v, script %v: %q", g, script, m.wrong)
				}
			})
			if n < most {
				whole++
			}
		}
	}
	if whole < 12 {
		t.Errorf("only %d rounds were gone through whole", whole)
	}
}

// P22.2 and P2: one outcome, that of the definition, for all scripts, workers, capacities and shards.
func TestOneOutcome(t *testing.T) {
	r := rand.New(rand.NewSource(2221))
	rounds := 40
	if testing.Short() {
		rounds = 8
	}
	errs := map[api.Errno]int{}
	for range rounds {
		g := batch(config(1, 1+r.Intn(8), 0), mixed(r.Intn(20), r))
		g.c.Room, g.c.Noise, g.tape = r.Intn(40), r.Intn(17), some(r.Intn(400), r.Int63())
		want := g.mix()
		errs[want.Err]++
		for range 25 {
			other := g.with(1+r.Intn(64), r.Intn(2)*r.Intn(1025), 1+r.Intn(64))
			script := someScript(r, r.Intn(400))
			if o, _ := other.run(script...); !sameOutcome(o, want) {
				t.Errorf("%v, script %s: %s; want %s", other, short(script), told(o), told(want))
			}
		}
	}
	if !testing.Short() && (errs[api.OK] < 5 || errs[api.ErrTape] < 2 || errs[api.ErrFull] < 2) {
		t.Errorf("the rounds are too much alike: %v", errs)
	}
}

// P22.2: DOC.md's examples of the whole that are a line's: the script 5, -3, 1 or any other: the same outcome, another history; 64 workers and the capacity 0, or one worker and 1024: the same bytes.
func TestExamplesOfTheWhole(t *testing.T) {
	g := batch(config(3, 2, 1), cells[:6])
	first, h := g.run(5, -3, 1)
	second, other := g.run()
	if first.Err != api.OK || !sameOutcome(first, second) || slices.Equal(h.Picks, other.Picks) {
		t.Errorf("%s, %v; %s, %v", told(first), h.Picks, told(second), other.Picks)
	}
	few, _ := g.with(1, 1024, 1).run(4, 4)
	many, _ := g.with(64, 0, 64).run(9, 9, 9)
	if !sameOutcome(few, many) || !sameOutcome(few, first) {
		t.Errorf("one worker: %s; 64: %s; three: %s", told(few), told(many), told(first))
	}
}

// unfair: scripts by which some tasks wait as long as they can: always the first that may be picked, always the last, and the like.
func unfair(n int) map[string][]int {
	turns := make([]int, n)
	for i := range turns {
		turns[i] = i
	}
	return map[string][]int{
		"no script": nil, "the first": make([]int, n), "the last": slices.Repeat([]int{-1}, n), "the second": slices.Repeat([]int{1}, n), "the last but one": slices.Repeat([]int{-2}, n), "in turns": turns,
		"first and last": slices.Repeat([]int{0, -1}, n/2), "the least number": slices.Repeat([]int{math.MinInt}, n), "the greatest": slices.Repeat([]int{math.MaxInt}, n),
	}
}

// P22.3: with scripts that have some tasks wait as long as can be, no run stands still; with a Cap above 0 it takes just Bound picks.
func TestUnfairScripts(t *testing.T) {
	for _, capacity := range []int{0, 1, 2, 20, 1024} {
		for _, workers := range []int{1, 2, 7, 64} {
			for _, chunks := range []int{1, 3, 20} {
				for _, n := range []int{0, 1, 5, 20} {
					if testing.Short() && n*chunks > 20 {
						continue
					}
					g := batch(quiet(workers, chunks, capacity), cells[:n])
					for what, script := range unfair(g.bound()) {
						o, m := checkRun(t, g, script)
						if o.Err != api.OK || capacity > 0 && len(m.picks) != g.bound() || capacity == 0 && len(m.picks) != g.bound()-2*n-2*chunks {
							t.Errorf("%v, %s: %d picks, %s", g, what, len(m.picks), told(o))
						}
					}
				}
			}
		}
	}
}

// P22.3 and P3: refused rounds end too, by unfair scripts.
func TestUnfairScriptsOfRefused(t *testing.T) {
	for _, x := range spoilings() {
		for _, capacity := range []int{0, 1, 30} {
			g := sound().with(3, capacity, 1)
			x.spoil(&g)
			for what, script := range unfair(200) {
				o, m := checkRun(t, g, script)
				if o.Err != x.want || (m != nil) != x.begun {
					t.Errorf("%s, %s: %s", x.what, what, told(o))
				}
			}
		}
	}
}

// P22.4: in flight are at most as many as the cells or the chunks, and with room enough just so many can be.
func TestInFlight(t *testing.T) {
	for _, x := range []struct{ n, workers, chunks, capacity, want int }{
		// One peeler keeps the order, so nothing waits: two ducts and its hand.
		{20, 1, 1, 1024, 20}, {20, 1, 1, 20, 20}, {20, 1, 1, 5, 11}, {20, 1, 1, 1, 3}, {20, 1, 1, 0, 1}, {256, 64, 64, 1024, 256},
		// Of the chunks, too, two ducts and the shufflers' hands.
		{3, 1, 64, 1024, 64}, {3, 1, 64, 64, 64}, {0, 1, 64, 1024, 64}, {1, 8, 20, 2, 12}, {1, 8, 20, 0, 8}, {0, 4, 9, 0, 4}, {0, 1, 1, 1, 1}, {0, 1, 1, 0, 1}, {1, 64, 1, 0, 1}, {4, 64, 4, 1024, 4},
	} {
		g := batch(quiet(x.workers, x.chunks, x.capacity), cells[:x.n])
		greatest := 0
		for _, script := range unfair(g.bound()) {
			_, m := checkRun(t, g, script)
			greatest = max(greatest, m.most)
		}
		if _, h := g.run(); x.capacity >= max(x.n, x.chunks) && h.Most != max(x.n, x.chunks) {
			t.Errorf("%v: %d in flight", g, h.Most)
		}
		if greatest != x.want {
			t.Errorf("%v: at most %d in flight; want %d", g, greatest, x.want)
		}
	}
}

// P22.4: what waits in the sifter's buffer is in flight: the first cell stays with its peeler while all others go on.
func TestWaitingIsInFlight(t *testing.T) {
	for _, capacity := range []int{0, 1, 2} {
		g := batch(quiet(2, 1, capacity), cells[:10])
		if _, m := checkRun(t, g, heldBack(g)); m.most != 10 {
			t.Errorf("capacity %d: %d in flight; want 10", capacity, m.most)
		}
	}
}

// heldBack: the script by which the peeler with the first cell is picked only where no other task may be.
func heldBack(g given) (script []int) {
	m := newModel(g.c, len(g.cells), false)
	for may := m.allThatMay(); len(may) > 0; may = m.allThatMay() {
		at := slices.IndexFunc(may, func(task int) bool { return m.states[task] != "P2" || m.number[task] > 0 })
		script = append(script, max(at, 0))
		m.pick(may[max(at, 0)])
	}
	return script
}

// P22.5: numbers behind the last pick count for nothing, and a script whose numbers pick the same tasks gives the same history.
func TestScriptsAlike(t *testing.T) {
	r := rand.New(rand.NewSource(2225))
	for range 60 {
		g := batch(config(1+r.Intn(4), 1+r.Intn(4), r.Intn(3)), mixed(r.Intn(8), r))
		script := someScript(r, r.Intn(150))
		o, m := checkRun(t, g, script)
		h := m.history()
		whole := append(slices.Clone(script), make([]int, 400)...)[:len(h.Picks)] // the first, where the script has ended
		told := make([]int, len(whole))
		moved := make([]int, len(whole))
		for k, count := range m.counts {
			told[k] = modulo(whole[k], count)
			moved[k] = told[k] + (r.Intn(2000)-1000)*count
		}
		for _, s := range [][]int{whole, told, moved, append(slices.Clone(whole), someScript(r, 50)...), append(slices.Clone(moved), 1, -1, math.MaxInt), slices.Concat(told, whole, moved)} {
			p, got := g.run(s...)
			if !sameOutcome(o, p) || !sameHistory(h, got) {
				t.Errorf("%v, script %s: %+v; by %s: %+v", g, short(script), h, short(s), got)
			}
		}
		checkTurned(t, g, told, m)
	}
}

// checkTurned: the picks so far are the same, and the next one is another, where the script tells another one.
func checkTurned(t *testing.T, g given, told []int, m *model) {
	t.Helper()
	for k, count := range m.counts {
		if count < 2 {
			continue
		}
		script := slices.Clone(told[:k+1])
		script[k]++
		if _, h := g.run(script...); !slices.Equal(h.Picks[:k], m.picks[:k]) || h.Picks[k] == m.picks[k] {
			t.Errorf("%v, by %v: %v; by %v: %v", g, told, m.picks, script, h.Picks)
		}
		return
	}
}

// P22.1 and P22.5: scripts cut short at every length: the picks so far are the whole one's.
func TestScriptsCutShort(t *testing.T) {
	for _, capacity := range []int{0, 1, 4} {
		g := batch(config(3, 4, capacity), cells[:6])
		script := someScript(rand.New(rand.NewSource(2226)), g.bound())
		_, whole := g.run(script...)
		for n := range script {
			checkRun(t, g, script[:n])
			if _, h := g.run(script[:n]...); !slices.Equal(h.Picks[:min(n, len(h.Picks))], whole.Picks[:min(n, len(h.Picks))]) {
				t.Errorf("%v, %d numbers: %v; with all %v", g, n, h.Picks, whole.Picks)
			}
		}
	}
}

// P22.2 and P2: over the server's life: each batch is played with its own workers, capacity, shards and script, and the states stay those of the definition.
func TestManyRounds(t *testing.T) {
	r := rand.New(rand.NewSource(2227))
	g := batch(config(1, 3, 1), nil)
	g.c.Room = 60
	byMix := g.s
	for n := range int64(40) {
		g = g.with(1+r.Intn(64), r.Intn(1025), 1+r.Intn(64))
		g.h.Round, g.cells, g.tape = 8+n, mixed(r.Intn(10), r), some(r.Intn(500), r.Int63())
		o, _ := g.run(someScript(r, 100)...)
		g.s = byMix
		want := g.mix()
		if !sameOutcome(o, want) {
			t.Fatalf("round %d: %s; want %s", n, told(o), told(want))
		}
		g.s, byMix = o.State, want.State
	}
}
