package server_test

import (
	"math/rand"
	"slices"
	"testing"

	"churn/api"
	"churn/crew"
	"churn/line"
	"churn/round"
	"churn/server"
)

// fewer: so many, or few of them where tests are to be short.
func fewer(n int) int {
	if testing.Short() {
		return n/8 + 1
	}
	return n
}

// P24.1: lists of calls of all kinds, one behind the other, each answer held against the chapter's words.
func TestListsOfCalls(t *testing.T) {
	errs := map[api.Errno]int{}
	for seed := range int64(fewer(40)) {
		l := newLot(2420 + seed)
		c := config()
		c.Span, c.Room, c.Chunks, c.Workers, c.Cap, c.Shards = 1+l.Intn(3), 10+l.Intn(60), 1+l.Intn(5), 1+l.Intn(9), l.Intn(3), 1+l.Intn(9)
		p := newPair(t, c, api.State{})
		for range 60 {
			switch l.Intn(9) {
			case 0:
				errs[p.round(noEngines[l.Intn(len(noEngines))], l.batch(p.m.s), l.tape(), l.script()...).Err]++
			case 1, 2:
				p.put(l.pieces(l.batch(p.m.s), 700)...)
			case 3, 4:
				if len(p.m.put) == 0 {
					p.put(l.pieces(l.batch(p.m.s), 200)...)
				}
				errs[p.finish(l.tape()).Err]++
			case 5:
				p = newPair(t, c, p.s.State())
			default:
				errs[p.round(l.Intn(3), l.batch(p.m.s), l.tape(), l.script()...).Err]++
			}
		}
	}
	if !testing.Short() && (errs[api.OK] < 300 || errs[api.ErrArg] < 50 || errs[api.ErrTape] < 20 || errs[api.ErrFull] < 20 || errs[api.ErrRound] < 20 || errs[api.ErrEpoch] < 5 || errs[api.ErrHop] < 20 || errs[api.ErrMore] < 20 || errs[api.ErrShort] < 10) {
		t.Errorf("the rounds are too much alike: %v", errs)
	}
}

// P24.1 and P2: each engine's outcome is that of its own package's call, and all are round.Mix's.
func TestOutcomesOfEngines(t *testing.T) {
	l := newLot(2461)
	for range fewer(150) {
		c, s := config(), held(l.Intn(5))
		c.Room, c.Workers, c.Cap, c.Shards, c.Chunks = 5+l.Intn(20), 1+l.Intn(64), l.Intn(2)*l.Intn(1025), 1+l.Intn(64), 1+l.Intn(9)
		raw, tape, script := l.batch(s), l.tape(), l.script()
		want := round.Mix(c, s, raw, tape)
		byLine, _ := line.Run(c, s, raw, tape, script)
		for engine, o := range []api.Outcome{want, crew.Run(c, s, raw, tape), byLine} {
			made := must(server.Load(c, s))
			got := made.Round(engine, raw, tape, script)
			if !sameOutcome(got, o) || !sameOutcome(got, want) || !sameState(made.State(), want.State) {
				t.Errorf("engine %d: %s, state at %s; want %s", engine, told(got), stateTold(made.State()), told(want))
			}
		}
	}
}

// A play is one way to have a server play a round.
type play func(n int, s *server.Server, raw, tape []byte) api.Outcome

// by: always by one engine, with such scripts.
func by(engine int, script func(n int) []int) play {
	return func(n int, s *server.Server, raw, tape []byte) api.Outcome {
		return s.Round(engine, raw, tape, script(n))
	}
}

func noScript(int) []int { return nil }

// plays: by each engine, with scripts of each kind, by the engines in turns, and in pieces.
func plays() map[string]play {
	r := rand.New(rand.NewSource(2462))
	return map[string]play{
		"mix":                    by(server.ByMix, noScript),
		"mix with a script":      by(server.ByMix, func(n int) []int { return []int{n, -n, 1 << 62} }),
		"crew":                   by(server.ByCrew, noScript),
		"crew with a script":     by(server.ByCrew, func(n int) []int { return r.Perm(50) }),
		"line":                   by(server.ByLine, noScript),
		"line, an empty script":  by(server.ByLine, func(int) []int { return []int{} }),
		"line, the last task":    by(server.ByLine, func(int) []int { return slices.Repeat([]int{-1}, 3000) }),
		"line, the greatest":     by(server.ByLine, func(int) []int { return slices.Repeat([]int{1<<63 - 1, -1 << 63}, 2000) }),
		"line, any script":       by(server.ByLine, func(int) []int { return r.Perm(r.Intn(900)) }),
		"line, a script of ones": by(server.ByLine, func(n int) []int { return slices.Repeat([]int{1}, n*40) }),
		"in turns": func(n int, s *server.Server, raw, tape []byte) api.Outcome {
			return s.Round(n%3, raw, tape, []int{7, n})
		},
		"in turns, the other way": func(n int, s *server.Server, raw, tape []byte) api.Outcome {
			return s.Round((2*n+1)%3, raw, tape, []int{n, 7})
		},
		"by chance": func(n int, s *server.Server, raw, tape []byte) api.Outcome {
			return s.Round(r.Intn(3), raw, tape, r.Perm(9))
		},
		"in pieces": func(_ int, s *server.Server, raw, tape []byte) api.Outcome {
			for _, piece := range (lot{r}).pieces(raw, 500) {
				s.Put(piece)
			}
			return s.Finish(tape)
		},
	}
}

// A played is a round's bytes and tape, its outcome and the state behind it.
type played struct {
	raw, tape []byte
	o         api.Outcome
	s         api.State
}

// row: so many rounds of a server by its definition, refused ones among them.
func (l lot) row(c api.Config, s api.State, n int) (list []played) {
	m := &model{c: c, s: s}
	for range n {
		p := played{raw: l.batch(m.s), tape: l.tape()}
		p.o = m.round(server.ByMix, p.raw, p.tape)
		p.s = copied(m.s)
		list = append(list, p)
	}
	return list
}

// P24.2: the same batches and tapes played by other engines, with any scripts, in turns and in pieces: the same outcomes, and the same states behind each.
func TestEnginesDoNotShow(t *testing.T) {
	for seed := range int64(fewer(12)) {
		l := newLot(2470 + seed)
		c := config()
		c.Room, c.Chunks, c.Workers, c.Cap = 15+l.Intn(30), 1+l.Intn(4), 1+l.Intn(6), l.Intn(3)
		row := l.row(c, api.State{}, 15)
		for what, play := range plays() {
			s := must(server.New(c))
			for n, x := range row {
				if o := play(n, s, x.raw, x.tape); !sameOutcome(o, x.o) || !sameState(s.State(), x.s) {
					t.Fatalf("%s, round %d of row %d: %s, state at %s; want %s", what, n, seed, told(o), stateTold(s.State()), told(x.o))
				}
			}
		}
	}
}

// P24.2: nor do workers, capacities and shards show, whatever the engine.
func TestWorkersDoNotShow(t *testing.T) {
	l := newLot(2490)
	c := config()
	row := l.row(c, api.State{}, 12)
	for _, x := range [][3]int{{1, 0, 1}, {64, 0, 64}, {1, 1024, 5}, {64, 1024, 1}, {7, 2, 3}} {
		c.Workers, c.Cap, c.Shards = x[0], x[1], x[2]
		for _, engine := range engines {
			s := must(server.New(c))
			for n, y := range row {
				if o := s.Round(engine, y.raw, y.tape, l.script()); !sameOutcome(o, y.o) || !sameState(s.State(), y.s) {
					t.Fatalf("%v by %d, round %d: %s; want %s", x, engine, n, told(o), told(y.o))
				}
			}
		}
	}
}

// A spoiling is one way to have a step refuse a round.
type spoiling struct {
	what      string
	want      api.Errno
	raw, tape []byte
}

// smooth: a tape with so many bytes in each chunk's part and no noise, in whose draws nothing is cast away; but for the parts from such a byte to such a one.
func smooth(part, from, to int) []byte {
	tape := make([]byte, 18+6*part)
	for i := from; i < to; i++ {
		tape[i] = 255
	}
	return tape
}

// spoilings: the steps that can refuse a round of a server at held(60), in their order.
func spoilings() []spoiling {
	tape, good := loud(3000, 2491), packed(header(6, 9), cells[:8]...)
	with := func(h api.Header, n int) []byte { return packed(h, cells[:n]...) }
	return []spoiling{
		{"no bytes", api.ErrShort, nil, tape},
		{"bytes that break off", api.ErrShort, good[:400], tape},
		{"the letters", api.ErrMagic, turned(good, 1, 1), tape},
		{"the version", api.ErrVersion, turned(good, 4, 3), tape},
		{"the header", api.ErrHeader, turned(good, 5, 64), tape},
		{"the count", api.ErrCount, turned(good, 6, 8), tape},
		{"a cell's length", api.ErrCell, turned(good, 24+322, 1), tape},
		{"the foot", api.ErrFoot, turned(good, len(good)-1, 1), tape},
		{"a cell's byte", api.ErrFoot, turned(good, 100, 1), tape},
		{"a byte behind", api.ErrMore, append(slices.Clone(good), 0), tape},
		{"the hop", api.ErrHop, with(api.Header{Round: 6, Epoch: 9, Left: 1}, 5), tape},
		{"the round", api.ErrRound, with(header(4, 9), 5), tape},
		{"an old epoch", api.ErrEpoch, with(header(6, 6), 5), tape},
		{"an epoch too far ahead", api.ErrEpoch, with(header(6, 9+1025), 5), tape},
		{"no tape", api.ErrTape, good, nil},
		{"the noise's part", api.ErrTape, good, tape[:17]},
		{"the crowd", api.ErrCrowd, with(header(6, 9), 250), tape},
		{"a chunk's part", api.ErrTape, good, smooth(40, 18+4*40, 18+5*40)},
		{"the braid's part", api.ErrTape, good, smooth(40, 18, 18+3*40)},
		{"a short tape", api.ErrTape, good, tape[:22]},
		{"the window", api.ErrFull, with(header(6, 9), 241), tape},
		{"the window, in a newer epoch", api.ErrFull, packed(header(6, 10), others...), tape},
	}
}

// others: as many cells of epoch 10 as a window that holds 60 tags has no room for.
var others = func() (list [][]byte) {
	for n := range 241 {
		list = append(list, sent(2, 10, n))
	}
	return list
}()

// P24.3: a round refused at each step, by each engine and in pieces: no byte goes out, nothing is reported, and the state is as it was.
func TestRefused(t *testing.T) {
	for _, x := range spoilings() {
		p := newPair(t, config(), held(60))
		for _, engine := range engines {
			o := p.round(engine, x.raw, x.tape, 3, 1, 4)
			if o.Err != x.want || len(o.Out) != 0 || o.Report != (api.Report{}) || !sameState(o.State, held(60)) || !sameState(p.s.State(), held(60)) {
				t.Errorf("%s by %d: %s; want %d", x.what, engine, told(o), x.want)
			}
		}
		p.put(x.raw)
		if o := p.finish(x.tape); o.Err != x.want || !sameState(p.s.State(), held(60)) {
			t.Errorf("%s in pieces: %s; want %d", x.what, told(o), x.want)
		}
	}
}

// behind: a server at held(60) that has refused this round, by an engine or, with 3, in pieces.
func (x spoiling) behind(engine int) *server.Server {
	s := must(server.Load(config(), held(60)))
	if engine == 3 {
		s.Put(x.raw)
		s.Finish(x.tape)
	} else {
		s.Round(engine, x.raw, x.tape, nil)
	}
	return s
}

// fewSpoilings: all of them, or some where tests are to be short.
func fewSpoilings() (list []spoiling) {
	for i, x := range spoilings() {
		if !testing.Short() || i%4 == 0 {
			list = append(list, x)
		}
	}
	return list
}

// P24.3: behind a refused round the same batch with another tape, or another batch, comes to what it would have come to at once, and leads to the same state.
func TestRefusedIsNotPlayed(t *testing.T) {
	tape := loud(3000, 2492)
	for _, x := range fewSpoilings() {
		then := [][]byte{
			x.raw, packed(header(6, 9), cells[:5]...), packed(header(5, 9), cells[3:9]...), packed(header(900, 10), others[:30]...), packed(header(6, 7), cells[:2]...), nil,
		}
		for i, raw := range then {
			fresh := must(server.Load(config(), held(60)))
			want := fresh.Round(server.ByMix, raw, tape, nil)
			for engine := range 4 {
				s := x.behind(engine)
				if o := s.Round((engine+i)%3, raw, tape, []int{2}); !sameOutcome(o, want) || !sameState(s.State(), fresh.State()) {
					t.Errorf("behind %s by %d, batch %d: %s; want %s", x.what, engine, i, told(o), told(want))
				}
			}
		}
	}
}

// P24.3: what a refused round held is as fresh as before: its cells go through in the next one, and are replays behind that alone.
func TestAsFreshAsBefore(t *testing.T) {
	for _, engine := range engines {
		for _, x := range fewSpoilings() {
			s := x.behind(engine)
			o := s.Round(engine, packed(header(6, 9), cells[:200]...), loud(3000, 2493), nil)
			if o.Err != api.OK || o.Report != (api.Report{In: 200, Noise: 7, Out: 207}) {
				t.Errorf("behind %s by %d: %s", x.what, engine, told(o))
			}
			o = s.Round(engine, packed(header(7, 9), cells[:200]...), loud(3000, 2493), nil)
			if o.Err != api.OK || o.Report != (api.Report{In: 200, Replays: 200, Noise: 7, Out: 7}) {
				t.Errorf("behind %s by %d, once more: %s", x.what, engine, told(o))
			}
		}
	}
}

// P24.3: a batch refused again and again, by all engines, then taken with a tape that is long enough.
func TestRefusedManyTimes(t *testing.T) {
	raw, tape := packed(header(5, 9), cells[:40]...), loud(2000, 2494)
	want := round.Mix(config(), held(2), raw, tape)
	s := must(server.Load(config(), held(2)))
	for n := range 60 {
		if o := s.Round(n%4, raw, tape[:n], []int{n}); o.Err == api.OK || !sameState(s.State(), held(2)) {
			t.Errorf("a tape of %d: %s", n, told(o))
		}
	}
	if o := s.Round(server.ByCrew, raw, tape, nil); want.Err != api.OK || !sameOutcome(o, want) {
		t.Errorf("%s; want %s", told(o), told(want))
	}
}

// P24.4: a server loaded from another's State, at each place of a row of rounds, answers from there on what that one answers; both are played on, apart from one another.
func TestStateIsAllThereIs(t *testing.T) {
	for seed := range int64(fewer(10)) {
		l := newLot(2495 + seed)
		c := config()
		c.Room = 15 + l.Intn(30)
		row := l.row(c, api.State{}, 12)
		first := must(server.New(c))
		for n := range row {
			second := must(server.Load(c, first.State()))
			for _, x := range row[n:] {
				if o := second.Round(l.Intn(3), x.raw, x.tape, l.script()); !sameOutcome(o, x.o) || !sameState(second.State(), x.s) {
					t.Fatalf("loaded ahead of round %d: %s; want %s", n, told(o), told(x.o))
				}
			}
			if o := first.Round(l.Intn(3), row[n].raw, row[n].tape, l.script()); !sameOutcome(o, row[n].o) || !sameState(first.State(), row[n].s) {
				t.Fatalf("round %d: %s; want %s", n, told(o), told(row[n].o))
			}
		}
	}
}

// P24.4: a chain of servers, each loaded from the one ahead of it for one round alone, and from an outcome's state as well.
func TestLoadedForEachRound(t *testing.T) {
	l := newLot(2510)
	c := config()
	c.Room = 25
	s, outcome := must(server.New(c)), api.State{}
	for n, x := range l.row(c, api.State{}, 40) {
		s = must(server.Load(c, s.State()))
		other := must(server.Load(c, outcome))
		s.Put(x.raw)
		o, p := s.Finish(x.tape), other.Round(n%3, x.raw, x.tape, nil)
		outcome = o.State
		if !sameOutcome(o, x.o) || !sameOutcome(p, x.o) || !sameState(s.State(), x.s) {
			t.Fatalf("round %d: %s and %s; want %s", n, told(o), told(p), told(x.o))
		}
	}
}

// P24.4: what was put isn't in a state: a server that is loaded has no pieces.
func TestPiecesAreNotInTheState(t *testing.T) {
	s := must(server.Load(config(), held(1)))
	raw := packed(header(5, 9), cells[:2]...)
	s.Put(raw)
	other := must(server.Load(config(), s.State()))
	if o := other.Finish(loud(300, 2511)); !sameOutcome(o, api.Outcome{State: held(1), Err: api.ErrShort}) {
		t.Errorf("nothing put: %s", told(o))
	}
	if o := s.Finish(loud(300, 2511)); o.Err != api.OK || o.Report.In != 2 {
		t.Errorf("one batch put: %s", told(o))
	}
}
