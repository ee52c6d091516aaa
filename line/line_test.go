package line_test

import (
	"fmt"
	"math"
	"math/rand"
	"slices"
	"testing"

	"churn/api"
	"churn/line"
	"churn/window"
)

// P22.1: the chapter's examples, pick by pick.
func TestExamples(t *testing.T) {
	bad := [][]byte{make([]byte, 320)}
	for _, x := range []struct {
		what   string
		g      given
		script []int
		picks  []int
		most   int
	}{
		{"a cell that doesn't peel", batch(quiet(1, 1, 1), bad), nil, []int{0, 0, 1, 1, 1, 1, 2, 2, 2, 2, 2, 3, 3, 3, 3, 4, 4, 4}, 1},
		{"the same with Cap 0", batch(quiet(1, 1, 0), bad), nil, []int{0, 0, 1, 1, 1, 2, 2, 2, 2, 3, 3, 3, 4, 4}, 1},
		{"no cells", batch(quiet(1, 1, 1), nil), []int{2, 2, 2}, []int{0, 1, 2, 2, 2, 2, 3, 3, 3, 3, 4, 4, 4}, 1},
	} {
		o, _ := checkRun(t, x.g, x.script)
		_, h := x.g.run(x.script...)
		if !sameHistory(h, api.History{Picks: x.picks, Most: x.most, Ended: true}) {
			t.Errorf("%s: %+v; want %v, %d", x.what, h, x.picks, x.most)
		}
		if o.Err != api.OK || o.Report.Malformed != len(x.g.cells) {
			t.Errorf("%s: %s", x.what, told(o))
		}
	}
}

// P22.1: runs told by hand: who meets whom, who closes, and how the chunks go round.
func TestRunsByHand(t *testing.T) {
	two := cells[:2]
	for _, x := range []struct {
		what   string
		g      given
		script []int
		picks  []int
		most   int
	}{
		// Tasks: 0 feeder, 1 and 2 peelers, 3 sifter, 4 and 5 shufflers, 6 weaver.
		{"a peeler's pick meets the feeder: the one that is picked, though it isn't the lowest", batch(quiet(2, 1, 0), cells[:1]), []int{2, 1, 0, 2, 1},
			[]int{2, 2, 0, 3, 2, 1, 3, 3, 3, 3, 4, 4, 4, 5, 6, 6}, 1},
		{"the feeder's pick meets the lowest-numbered peeler", batch(quiet(2, 1, 0), two), []int{0, 0, 0, 0},
			[]int{0, 0, 0, 1, 1, 1, 2, 2, 2, 3, 3, 3, 3, 4, 4, 4, 5, 6, 6}, 2},
		{"the sifter's pick meets the lowest-numbered peeler that gives: the second cell waits for the first", batch(quiet(2, 1, 0), two), []int{2, 1, 2, 1, 3, 1},
			[]int{2, 1, 2, 1, 3, 2, 0, 1, 2, 3, 3, 3, 3, 4, 4, 4, 5, 6, 6}, 2},
		{"no noise comes, so no chunk goes round", given{c: quiet(1, 3, 1), h: api.Header{Left: 2, Epoch: 9}, cells: cells[:1], tape: make([]byte, 17)}, []int{-1, -1, -1},
			[]int{0, 1, 1, 0, 1, 1, 2, 2, 2, 2, 3, 4, 4}, 1},
	} {
		checkRun(t, x.g, x.script)
		if _, h := x.g.run(x.script...); !sameHistory(h, api.History{Picks: x.picks, Most: x.most, Ended: true}) {
			t.Errorf("%s: %+v; want %v, %d", x.what, h, x.picks, x.most)
		}
	}
}

// P22.1: all capacities, workers and chunks of a few kinds, with batches of no cell, of one, and of several.
func TestManyKinds(t *testing.T) {
	r := rand.New(rand.NewSource(2211))
	for _, capacity := range []int{0, 1, 2, 3, 7, 300, 1024} {
		for _, workers := range []int{1, 2, 3, 8, 64} {
			for _, chunks := range []int{1, 2, 5, 64} {
				for _, n := range []int{0, 1, 2, 9} {
					g := batch(config(workers, chunks, capacity), mixed(n, r))
					g.tape = loud(r.Intn(1200)+18, r.Int63())
					checkRun(t, g, nil)
					checkRun(t, g, someScript(r, r.Intn(g.bound()+20)))
				}
			}
		}
	}
}

// P22.1: the greatest batches, by the greatest and the least of everything.
func TestGreatestBatches(t *testing.T) {
	r := rand.New(rand.NewSource(2212))
	for _, x := range []struct{ workers, chunks, capacity int }{{1, 1, 0}, {1, 64, 1}, {64, 1, 1024}, {64, 64, 0}, {64, 64, 1}, {64, 64, 1024}, {3, 7, 255}} {
		for _, list := range [][][]byte{cells, mixed(256, r), slices.Repeat(cells[3:4], 256), slices.Repeat([][]byte{make([]byte, 320)}, 256)} {
			for i, script := range [][]int{nil, slices.Repeat([]int{-1}, 2000), someScript(r, 2000)} {
				if testing.Short() && i < 2 {
					continue
				}
				g := batch(quiet(x.workers, x.chunks, x.capacity), list)
				o, m := checkRun(t, g, script)
				if o.Err != api.OK || o.Report.In != 256 || x.capacity > 0 && len(m.picks) != 1280+5*x.chunks+2*x.workers+6 {
					t.Errorf("%v: %s, %d picks", g, told(o), len(m.picks))
				}
			}
		}
	}
}

// P22.1 and P2: malformed cells, replays and cells twice, whoever finishes first: the first of a batch is the fresh one.
func TestWhichIsFresh(t *testing.T) {
	r := rand.New(rand.NewSource(2213))
	list := [][]byte{cells[0], cells[1], make([]byte, 320), cells[0], cells[2], turned(cells[5], 20, 1), cells[2], cells[0], cells[3]}
	for range 60 {
		g := batch(config(1+r.Intn(6), 1+r.Intn(4), r.Intn(4)), list)
		g.s = held(1, 1)
		o, _ := checkRun(t, g, someScript(r, 100))
		if o.Err != api.OK || o.Report.In != 9 || o.Report.Malformed != 2 || o.Report.Replays != 4 || window.Len(o.State.Window) != 4 {
			t.Fatalf("%v: %s", g, told(o))
		}
	}
}

// A spoiling is one way to have a step refuse.
type spoiling struct {
	what  string
	want  api.Errno
	begun bool
	spoil func(g *given)
}

func spoilings() []spoiling {
	return []spoiling{
		{"the configuration", api.ErrConfig, false, func(g *given) { g.c.Shards = 65 }},
		{"the workers", api.ErrConfig, false, func(g *given) { g.c.Workers = 65 }},
		{"the capacity", api.ErrConfig, false, func(g *given) { g.c.Cap = 1025 }},
		{"the state", api.ErrConfig, false, func(g *given) { g.s.Window.Newest = 8 }},
		{"the bytes", api.ErrMore, false, func(g *given) { g.behind = []byte{0} }},
		{"the hop", api.ErrHop, false, func(g *given) { g.h.Left = 1 }},
		{"the round", api.ErrRound, false, func(g *given) { g.h.Round = 4 }},
		{"the epoch", api.ErrEpoch, false, func(g *given) { g.h.Epoch = 6 }},
		{"the noise", api.ErrTape, true, func(g *given) { g.tape = g.tape[:17] }},
		{"the crowd", api.ErrCrowd, true, func(g *given) { g.cells = cells[:250] }},
		{"a chunk", api.ErrTape, true, func(g *given) { g.c.Chunks, g.tape = 1, g.tape[:22] }},
		{"the braid", api.ErrTape, true, func(g *given) { g.c.Chunks, g.tape = 64, g.tape[:20] }},
		{"the window", api.ErrFull, true, func(g *given) { g.c.Room = 4 }},
	}
}

// sound: a round of four cells with seven of noise, that no step refuses.
func sound() given {
	g := batch(config(2, 3, 1), cells[:4])
	g.s = held(253, 255)
	g.c.Noise = 7
	return g
}

// P22.1, P22.3 and P3: rounds refused at each step: ahead of the tasks no pick is made, behind it all tasks end; what goes out is what the definition says.
func TestRefused(t *testing.T) {
	r := rand.New(rand.NewSource(2214))
	if o, _ := checkRun(t, sound(), nil); o.Err != api.OK || o.Report != (api.Report{In: 4, Noise: 7, Out: 11}) {
		t.Fatalf("nothing spoiled: %s", told(o))
	}
	for _, x := range spoilings() {
		for i := range 20 {
			g := sound()
			if i > 0 {
				g = g.with(1+r.Intn(64), r.Intn(5), 1+r.Intn(64))
			}
			x.spoil(&g)
			o, m := checkRun(t, g, someScript(r, i*10))
			if o.Err != x.want || (m != nil) != x.begun || len(o.Out) != 0 || o.Report != (api.Report{}) || !sameState(o.State, g.s) {
				t.Errorf("%s: %s, begun %v; want error %d, begun %v", x.what, told(o), m != nil, x.want, x.begun)
			}
			if _, h := g.run(someScript(r, 5)...); (len(h.Picks) > 0) != x.begun || !h.Ended {
				t.Errorf("%s: %+v", x.what, h)
			}
		}
	}
}

// P22.1: how many picks a refused round has: at the noise no chunk goes round; at a chunk, the braid or the window all do.
func TestPicksOfRefused(t *testing.T) {
	for _, x := range spoilings() {
		g := sound()
		x.spoil(&g)
		_, h := g.run()
		want := 0
		switch x.what {
		case "the noise":
			want = 5*4 + 2*2 + 6
		case "the crowd":
			want = 5*250 + 2*2 + 6
		case "a chunk":
			want = 5*4 + 5*1 + 2*2 + 6
		case "the braid":
			want = 5*4 + 5*64 + 2*2 + 6
		case "the window":
			want = 5*4 + 5*3 + 2*2 + 6
		}
		if len(h.Picks) != want {
			t.Errorf("%s: %d picks; want %d", x.what, len(h.Picks), want)
		}
	}
}

// P22.1: which part of the tape runs out: the first chunk's, a later one's, the braid's, all of them, or none.
func TestWhichPartRunsOut(t *testing.T) {
	full := func(n int) []byte { return slices.Repeat([]byte{255}, n) } // draws that are thrown away: the part runs out
	for n := 2; n < 9; n++ {
		for chunks := 1; chunks <= n; chunks++ {
			for spoiled := -1; spoiled <= chunks; spoiled++ {
				g := batch(quiet(2, chunks, 1), cells[:n])
				part := 8 * 8
				g.tape = make([]byte, 18+2*part*chunks)
				if spoiled == chunks {
					copy(g.tape[18:], full(part*chunks))
				} else if spoiled >= 0 {
					copy(g.tape[18+part*chunks+part*spoiled:], full(part))
				}
				o, m := checkRun(t, g, []int{1, 2, 3, 4, 5})
				if len(m.picks) != g.bound() {
					t.Errorf("%v: %d picks", g, len(m.picks))
				}
				if spoiled < 0 && o.Err != api.OK {
					t.Errorf("%v, nothing spoiled: %s", g, told(o))
				}
			}
		}
	}
}

// P22.1: tapes of every length.
func TestLengthsOfTapes(t *testing.T) {
	for _, chunks := range []int{1, 2, 3, 64} {
		for n := range 5 {
			errs := map[api.Errno]int{}
			for length := range 70 {
				g := batch(quiet(2, chunks, length%3), cells[:n])
				g.tape = some(length, 2215)
				o, _ := checkRun(t, g, []int{length, n, -chunks})
				errs[o.Err]++
			}
			if errs[api.ErrTape] < 18 || n > 1 && errs[api.ErrTape] == 18 || n < 2 && errs[api.ErrTape] != 18 {
				t.Errorf("%d cells, %d chunks: %v", n, chunks, errs)
			}
		}
	}
}

// P22.1 and P2: every hop, epochs about the window, what falls out of it and rows of rounds: the state of one is the next one's.
func TestRowsOfRounds(t *testing.T) {
	r := rand.New(rand.NewSource(2216))
	for range 12 {
		c := config(1+r.Intn(5), 1+r.Intn(5), r.Intn(3))
		c.Span, c.Room = 1+r.Intn(3), 20
		g := given{c: c}
		for n := range int64(25) {
			g.h = api.Header{Round: n, Epoch: max(0, 9+int64(r.Intn(4))-1), Left: 2}
			g.cells, g.tape = mixed(r.Intn(8), r), some(r.Intn(300), r.Int63())
			o, _ := checkRun(t, g, someScript(r, r.Intn(80)))
			g.s = o.State
		}
	}
}

// P22.1: Bound, at each limit and about it; the rest of the configuration counts for nothing.
func TestBound(t *testing.T) {
	far := []int{-1, -2, -64, -256, 1 << 16, 1<<16 + 1, 1 << 32, 1<<32 + 1, math.MaxInt32, math.MinInt32, math.MaxInt, math.MaxInt - 1, math.MinInt, math.MinInt + 1}
	for cells := -3; cells <= 300; cells++ {
		for _, workers := range append([]int{0, 1, 2, 3, 32, 63, 64, 65, 66, 128}, far...) {
			for _, chunks := range append([]int{0, 1, 2, 3, 32, 63, 64, 65, 66, 128}, far...) {
				want := 0
				if cells >= 0 && cells <= 256 && workers >= 1 && workers <= 64 && chunks >= 1 && chunks <= 64 {
					want = 5*cells + 5*chunks + 2*workers + 6
				}
				if got := line.Bound(api.Config{Workers: workers, Chunks: chunks}, cells); got != want {
					t.Errorf("%d cells, %d workers, %d chunks: %d; want %d", cells, workers, chunks, got, want)
				}
			}
		}
	}
	for _, cells := range far {
		if got := line.Bound(quiet(1, 1, 1), cells); got != 0 {
			t.Errorf("%d cells: %d", cells, got)
		}
	}
	if got := line.Bound(api.Config{Workers: 64, Chunks: 64, Left: -1, Span: -1, Room: -1, Num: -1, Den: -1, Noise: -1, Cap: -1, Shards: -1}, 256); got != 1734 {
		t.Errorf("the greatest, with all else wrong: %d", got)
	}
	if got := line.Bound(api.Config{}, 0); got != 0 {
		t.Errorf("the zero Config: %d", got)
	}
}

// Rule 1: arguments of all kinds, right or not: no panic, and the definition's outcome.
func TestOddArguments(t *testing.T) {
	odd := []int{-1, 0, 1, 2, 3, 8, 9, 64, 65, 1000, 1001, 1024, 1025, 4096, 4097, math.MaxInt, math.MinInt}
	for field := range 10 {
		for _, x := range odd {
			g := sound()
			*[]*int{&g.c.Left, &g.c.Span, &g.c.Room, &g.c.Num, &g.c.Den, &g.c.Noise, &g.c.Chunks, &g.c.Workers, &g.c.Cap, &g.c.Shards}[field] = x
			checkRun(t, g, []int{math.MinInt, math.MaxInt, -1, 7})
		}
	}
	for _, key := range [][]byte{nil, {}, make([]byte, 31), make([]byte, 33)} {
		g := sound()
		g.c.Master = key
		checkRun(t, g, nil)
	}
	for _, s := range []api.State{{}, {Next: -1}, {Next: math.MaxInt64}, {Next: 1 << 62}, {Window: api.Window{Newest: -1}}, {Window: api.Window{Newest: math.MaxInt64}}, {Window: api.Window{Newest: 9, Epochs: []api.Epoch{{Number: 9}}}}} {
		g := sound()
		g.s = s
		checkRun(t, g, nil)
	}
	o, h := line.Run(api.Config{}, api.State{}, nil, nil, nil)
	if o.Err != api.ErrConfig || !sameHistory(h, api.History{Ended: true}) {
		t.Errorf("nothing at all: %s, %+v", told(o), h)
	}
	g := sound()
	raw := g.raw()
	for n := 0; n < len(raw); n += 97 {
		o, h := line.Run(g.c, g.s, raw[:n], g.tape, []int{1})
		if !sameOutcome(o, api.Outcome{State: g.s, Err: api.ErrShort, At: n}) || !sameHistory(h, api.History{Ended: true}) {
			t.Errorf("%d bytes: %s, %+v", n, told(o), h)
		}
	}
}

func ExampleRun() {
	g := batch(quiet(1, 1, 1), cells[:1])
	o, h := line.Run(g.c, g.s, g.raw(), g.tape, []int{1, 1})
	fmt.Println(o.Err, o.Report.Out, h.Picks, h.Most)
	// Output: churn: error 0 1 [0 1 0 1 1 1 2 2 2 2 2 3 3 3 3 4 4 4] 1
}
