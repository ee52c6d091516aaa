package crew_test

import (
	"fmt"
	"math"
	"math/rand"
	"runtime"
	"slices"
	"testing"

	"churn/api"
	"churn/crew"
	"churn/window"
)

// P23.1: the chapter's example of Run, and DOC.md's examples of the whole that are a crew's: 64 workers and the capacity 0, or one worker and 1024; a cell twice; a tape of 17 bytes; 18 noughts; a window of room 3.
func TestExamplesOfRun(t *testing.T) {
	none := batch(quiet(0, 1, 0), cells[:2])
	if o := checkRun(t, none); o.Err != api.ErrConfig {
		t.Errorf("no workers: %s", told(o))
	}
	g := batch(config(64, 3, 0), cells[:6])
	many, few := checkRun(t, g), checkRun(t, g.with(1, 1024, 1))
	if many.Err != api.OK || many.Report.Out != 10 || !sameOutcome(many, few) {
		t.Errorf("64 workers: %s; one: %s", told(many), told(few))
	}
	once := batch(config(5, 2, 1), cells[:3])
	twice := batch(config(5, 2, 1), [][]byte{cells[0], cells[1], cells[0], cells[2]})
	o, p := checkRun(t, once), checkRun(t, twice)
	if o.Err != api.OK || p.Report.Replays != 1 || !slices.Equal(o.Out, p.Out) || !sameState(o.State, p.State) {
		t.Errorf("a cell twice: %s; once: %s", told(p), told(o))
	}
	g.tape = g.tape[:17]
	if o := checkRun(t, g); o.Err != api.ErrTape {
		t.Errorf("17 bytes: %s", told(o))
	}
	noughts := batch(config(64, 64, 0), nil)
	noughts.tape = make([]byte, 18)
	if o := checkRun(t, noughts); o.Err != api.OK || o.Report != (api.Report{}) || o.State.Next != 9 {
		t.Errorf("18 noughts: %s", told(o))
	}
	full := batch(config(3, 2, 1), cells[:2])
	full.c.Room, full.s = 3, held(10, 11)
	if o := checkRun(t, full); o.Err != api.ErrFull || len(o.Out) > 0 || !sameState(o.State, full.s) {
		t.Errorf("two into room for one: %s", told(o))
	}
	full.cells = cells[1:2]
	if o := checkRun(t, full); o.Err != api.OK || window.Len(o.State.Window) != 3 {
		t.Errorf("one into room for one: %s", told(o))
	}
}

// P23.1, P23.3 and P2: batches of no cell, of one, of several and of many, by workers, capacities, chunks and shards of each size.
func TestManyKinds(t *testing.T) {
	r := rand.New(rand.NewSource(2331))
	for _, n := range []int{0, 1, 2, 9, 70} {
		for _, chunks := range []int{1, 2, 5, 64} {
			g := batch(config(1, chunks, 0), mixed(n, r))
			g.s, g.tape = held(0, 1), loud(r.Intn(1500)+18, r.Int63())
			want := checkRun(t, g)
			for _, workers := range []int{1, 2, 3, 8, 64} {
				for _, capacity := range []int{0, 1, 1024} {
					if testing.Short() && (workers+capacity+n+chunks)%4 != 0 {
						continue
					}
					for _, shards := range []int{1, 7, 64} {
						if o := g.with(workers, capacity, shards).run(); !sameOutcome(o, want) {
							t.Errorf("%v: %s; want %s", g.with(workers, capacity, shards), told(o), told(want))
						}
					}
				}
			}
		}
	}
}

// P23.1: the greatest batches, by the greatest and the least of everything.
func TestGreatestBatches(t *testing.T) {
	r := rand.New(rand.NewSource(2332))
	for _, list := range [][][]byte{cells, mixed(256, r), slices.Repeat(cells[3:4], 256), slices.Repeat([][]byte{make([]byte, 320)}, 256)} {
		for _, x := range []struct{ workers, chunks, capacity, shards int }{{1, 1, 0, 1}, {1, 64, 1, 64}, {64, 1, 1024, 1}, {64, 64, 0, 64}, {64, 64, 1024, 64}, {3, 7, 255, 5}} {
			g := batch(quiet(x.workers, x.chunks, x.capacity), list)
			g.c.Shards = x.shards
			if o := checkRun(t, g); o.Err != api.OK || o.Report.In != 256 {
				t.Errorf("%v: %s", g, told(o))
			}
		}
	}
}

// P23.1: malformed cells, replays and cells twice, whoever finishes first: the first of a batch is the fresh one.
func TestWhichIsFresh(t *testing.T) {
	r := rand.New(rand.NewSource(2333))
	list := [][]byte{cells[0], cells[1], make([]byte, 320), cells[0], cells[2], turned(cells[5], 20, 1), cells[2], cells[0], cells[1], cells[3]}
	for range 60 {
		g := batch(config(1+r.Intn(64), 1+r.Intn(4), r.Intn(4)), list)
		g.s = held(1, 1)
		o := checkRun(t, g.with(g.c.Workers, g.c.Cap, 1+r.Intn(64)))
		if o.Err != api.OK || o.Report != (api.Report{In: 10, Malformed: 2, Replays: 5, Noise: 4, Out: 7}) || window.Len(o.State.Window) != 4 {
			t.Fatalf("%v: %s", g, told(o))
		}
	}
}

// P23.1: a cell at any two places of a batch is fresh at the one ahead, and so is one that stands behind a malformed twin of it.
func TestTwoPlaces(t *testing.T) {
	for i := range 9 {
		for j := i + 1; j < 9; j++ {
			list := slices.Clone(cells[20:29])
			list[j] = list[i]
			g := batch(config(1+(i*j)%9, 2, (i+j)%3), list)
			if o := checkRun(t, g); o.Report.Replays != 1 || o.Report.Malformed != 0 {
				t.Errorf("%d and %d: %s", i, j, told(o))
			}
			g.cells[i] = turned(list[i], 100, 4)
			if o := checkRun(t, g); o.Report.Replays != 0 || o.Report.Malformed != 1 {
				t.Errorf("%d malformed, %d not: %s", i, j, told(o))
			}
		}
	}
}

// A spoiling is one way to have a step refuse.
type spoiling struct {
	what  string
	want  api.Errno
	spoil func(g *given)
}

// spoilings: the steps that can refuse, in their order.
func spoilings() []spoiling {
	return []spoiling{
		{"the configuration", api.ErrConfig, func(g *given) { g.c.Span = 9 }},
		{"the workers", api.ErrConfig, func(g *given) { g.c.Workers = 65 }},
		{"the capacity", api.ErrConfig, func(g *given) { g.c.Cap = 1025 }},
		{"the shards", api.ErrConfig, func(g *given) { g.c.Shards = 65 }},
		{"the state", api.ErrConfig, func(g *given) { g.s.Window.Newest = 8 }},
		{"the bytes", api.ErrMore, func(g *given) { g.behind = []byte{0} }},
		{"the hop", api.ErrHop, func(g *given) { g.h.Left = 1 }},
		{"the round", api.ErrRound, func(g *given) { g.h.Round = 4 }},
		{"the epoch", api.ErrEpoch, func(g *given) { g.h.Epoch = 6 }},
		{"the noise", api.ErrTape, func(g *given) { g.tape = g.tape[:17] }},
		{"the crowd", api.ErrCrowd, func(g *given) { g.cells = cells[:250] }},
		{"a chunk", api.ErrTape, func(g *given) { g.c.Chunks, g.tape = 1, g.tape[:22] }},
		{"the braid", api.ErrTape, func(g *given) { g.c.Chunks, g.tape = 64, g.tape[:20] }},
		{"the window", api.ErrFull, func(g *given) { g.c.Room = 4 }},
	}
}

// sound: a round of four cells with seven of noise, that no step refuses.
func sound() given {
	g := batch(config(2, 3, 1), cells[:4])
	g.s = held(253, 255)
	g.c.Noise = 7
	return g
}

// P23.1 and P23.3: rounds refused at each step, whatever the workers, the capacity and the shards: the definition's error, no bytes, no report, and the state as it was.
func TestRefused(t *testing.T) {
	r := rand.New(rand.NewSource(2334))
	if o := checkRun(t, sound()); o.Err != api.OK || o.Report != (api.Report{In: 4, Noise: 7, Out: 11}) {
		t.Fatalf("nothing spoiled: %s", told(o))
	}
	for _, x := range spoilings() {
		for i := range 12 {
			g := sound()
			if i > 0 {
				g = g.with(1+r.Intn(64), []int{0, 1, 5, 1024}[i%4], 1+r.Intn(64))
			}
			x.spoil(&g)
			o := checkRun(t, g)
			if o.Err != x.want || len(o.Out) != 0 || o.Report != (api.Report{}) || !sameState(o.State, g.s) || (o.At != 0) != (x.want == api.ErrMore) {
				t.Errorf("%s: %s; want error %d", x.what, told(o), x.want)
			}
		}
	}
}

// P23.1: of two steps that would refuse the earlier one tells its error.
func TestWhichStepRefusesFirst(t *testing.T) {
	list := spoilings()
	for _, first := range list {
		for _, second := range list {
			g := sound()
			second.spoil(&g)
			first.spoil(&g)
			if o := checkRun(t, g); o.Err == api.OK {
				t.Errorf("%s and %s: %s", first.what, second.what, told(o))
			}
		}
	}
}

// P23.1: which part of the tape runs out: a chunk's, the braid's, or none; and tapes of every length.
func TestTapesOfRun(t *testing.T) {
	for n := 2; n < 8; n++ {
		for chunks := 1; chunks <= n; chunks++ {
			part := 64
			for spoiled := -1; spoiled <= chunks; spoiled++ {
				g := batch(quiet(2, chunks, 1), cells[:n])
				g.tape = make([]byte, 18+2*part*chunks)
				bad := g.tape[:0]
				if spoiled == chunks {
					bad = g.tape[18 : 18+part*chunks]
				} else if spoiled >= 0 {
					bad = g.tape[18+part*(chunks+spoiled):][:part]
				}
				for i := range bad {
					bad[i] = 255
				}
				if o := checkRun(t, g); spoiled < 0 && o.Err != api.OK {
					t.Errorf("%v, nothing spoiled: %s", g, told(o))
				}
			}
		}
	}
	for _, chunks := range []int{1, 2, 3, 64} {
		for n := range 5 {
			errs := map[api.Errno]int{}
			for length := range 70 {
				g := batch(quiet(1+length%5, chunks, length%3), cells[:n])
				g.tape = some(length, 2335)
				errs[checkRun(t, g).Err]++
			}
			if errs[api.ErrTape] < 18 || n > 1 && errs[api.ErrTape] == 18 || n < 2 && errs[api.ErrTape] != 18 {
				t.Errorf("%d cells, %d chunks: %v", n, chunks, errs)
			}
		}
	}
}

// P23.1, P23.3 and P2: over a server's life, each round by other workers, capacities and shards: epochs about the window, replays of older rounds, rounds refused and not: the states stay those of the definition.
func TestRowsOfRounds(t *testing.T) {
	r := rand.New(rand.NewSource(2336))
	errs := map[api.Errno]int{}
	for range 12 {
		g := given{c: config(1, 1+r.Intn(9), 0)}
		g.c.Span, g.c.Room = 1+r.Intn(3), 20
		for n := range int64(25) {
			g = g.with(1+r.Intn(64), r.Intn(2)*r.Intn(1025), 1+r.Intn(64))
			g.h = api.Header{Round: n, Epoch: 9 + int64(r.Intn(60)/58), Left: 2}
			if r.Intn(9) == 0 {
				g.h.Epoch = 6
			}
			g.cells, g.tape = mixed(r.Intn(9), r), some(r.Intn(400), r.Int63())
			o := checkRun(t, g)
			errs[o.Err]++
			g.s = o.State
		}
	}
	if errs[api.OK] < 50 || errs[api.ErrTape] < 5 || errs[api.ErrFull] < 5 || errs[api.ErrEpoch] < 5 {
		t.Errorf("the rounds are too much alike: %v", errs)
	}
}

// P23.3: one outcome for any workers, capacity and shards within their limits.
func TestWorkersDoNotShow(t *testing.T) {
	r := rand.New(rand.NewSource(2337))
	rounds := 40
	if testing.Short() {
		rounds = 8
	}
	errs := map[api.Errno]int{}
	for range rounds {
		g := batch(config(1, 1+r.Intn(8), 0), mixed(r.Intn(30), r))
		g.c.Room, g.c.Noise, g.tape = r.Intn(40), r.Intn(17), some(r.Intn(400), r.Int63())
		want := g.mix()
		errs[want.Err]++
		for i := range 25 {
			other := g.with(1+r.Intn(64), r.Intn(2)*r.Intn(1025), 1+r.Intn(64))
			if i < 8 {
				other = g.with([]int{1, 64}[i%2], []int{0, 1024}[i/2%2], []int{1, 64}[i/4])
			}
			if o := other.run(); !sameOutcome(o, want) {
				t.Errorf("%v: %s; want %s", other, told(o), told(want))
			}
		}
	}
	if !testing.Short() && (errs[api.OK] < 5 || errs[api.ErrTape] < 2 || errs[api.ErrFull] < 2) {
		t.Errorf("the rounds are too much alike: %v", errs)
	}
}

// P23.3: the schedule doesn't show: the same round again and again, with one thread at a time and with several.
func TestRunHangsOnNoSchedule(t *testing.T) {
	defer runtime.GOMAXPROCS(runtime.GOMAXPROCS(0))
	g := batch(config(1, 9, 0), mixed(60, rand.New(rand.NewSource(2338))))
	want := g.mix()
	times := 40
	if testing.Short() {
		times = 4
	}
	for _, threads := range []int{1, 2, 8} {
		runtime.GOMAXPROCS(threads)
		for range times {
			for _, x := range [][3]int{{2, 0, 1}, {8, 1, 8}, {64, 0, 64}, {64, 3, 3}} {
				if o := g.with(x[0], x[1], x[2]).run(); !sameOutcome(o, want) {
					t.Fatalf("%d threads, %v: %s; want %s", threads, x, told(o), told(want))
				}
			}
		}
	}
}

// P23.1, rule 1: arguments of all kinds, right or not: no panic, and the definition's outcome.
func TestOddArguments(t *testing.T) {
	odd := []int{-1, 0, 1, 2, 3, 8, 9, 64, 65, 1000, 1001, 1024, 1025, 4096, 4097, math.MaxInt, math.MinInt}
	for field := range 10 {
		for _, x := range odd {
			g := sound()
			*[]*int{&g.c.Left, &g.c.Span, &g.c.Room, &g.c.Num, &g.c.Den, &g.c.Noise, &g.c.Chunks, &g.c.Workers, &g.c.Cap, &g.c.Shards}[field] = x
			checkRun(t, g)
		}
	}
	for _, k := range [][]byte{nil, {}, make([]byte, 31), make([]byte, 33)} {
		g := sound()
		g.c.Master = k
		checkRun(t, g)
	}
	tag := [16]byte{3}
	for _, s := range []api.State{
		{}, {Next: -1}, {Next: math.MaxInt64}, {Next: 1 << 62}, {Next: 8}, {Next: 9}, {Window: api.Window{Newest: -1}}, {Window: api.Window{Newest: math.MaxInt64}}, {Window: api.Window{Newest: math.MinInt64}},
		{Window: api.Window{Newest: 9, Epochs: []api.Epoch{{Number: 9}}}}, {Window: api.Window{Newest: 9, Epochs: []api.Epoch{{Number: 9, Tags: [][16]byte{tag, tag}}}}}, {Window: api.Window{Newest: 9, Epochs: []api.Epoch{{Number: 8, Tags: [][16]byte{tag}}}}},
	} {
		g := sound()
		g.s = s
		checkRun(t, g)
	}
	if o := crew.Run(api.Config{}, api.State{}, nil, nil); !sameOutcome(o, api.Outcome{Err: api.ErrConfig}) {
		t.Errorf("nothing at all: %s", told(o))
	}
}

// P23.1: bytes that are no batch: cut short anywhere, or with one bit turned: frame.Read's error and its place.
func TestOddBytes(t *testing.T) {
	g := sound()
	raw := g.raw()
	for n := 0; n < len(raw); n += 13 {
		o := g.runOf(raw[:n])
		if !sameOutcome(o, api.Outcome{State: g.s, Err: api.ErrShort, At: n}) {
			t.Errorf("%d bytes: %s", n, told(o))
		}
		o, want := g.runOf(turned(raw, n, 1)), g.mixOf(turned(raw, n, 1))
		if !sameOutcome(o, want) || o.Err == api.OK {
			t.Errorf("byte %d turned: %s; want %s", n, told(o), told(want))
		}
	}
}

// P23.1: every hop, the last one too, whose output lies open.
func TestHops(t *testing.T) {
	for left := 1; left <= 8; left++ {
		var list [][]byte
		for n := range 5 {
			list = append(list, sent(left, n))
		}
		g := batch(config(3, 2, 1), append(list, list[2], sent(left%8+1, 0), make([]byte, 320)))
		g.c.Left, g.h.Left = left, left
		if o := checkRun(t, g); o.Err != api.OK || o.Report != (api.Report{In: 8, Malformed: 2, Replays: 1, Noise: 4, Out: 9}) {
			t.Errorf("left %d: %s", left, told(o))
		}
	}
}

func ExampleRun() {
	g := batch(config(8, 2, 0), [][]byte{cells[0], cells[1], cells[0], make([]byte, 320)})
	o := crew.Run(g.c, g.s, g.raw(), g.tape)
	fmt.Println(o.Err, o.Report.In, o.Report.Malformed, o.Report.Replays, o.Report.Noise, o.Report.Out)
	o = crew.Run(g.c, o.State, g.raw(), g.tape)
	fmt.Println(o.Err, o.State.Next)
	// Output:
	// churn: error 0 4 1 1 4 6
	// churn: error 211 9
}
