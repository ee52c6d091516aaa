package cascade_test

import (
	"fmt"
	"slices"
	"testing"

	"churn/api"
	"churn/cascade"
	"churn/frame"
	"churn/server"
)

// varied: configurations of so many hops, each with numbers of its own.
func (l lot) varied(hops int) []api.Config {
	cs := configs(hops)
	for i := range cs {
		c := &cs[i]
		c.Span, c.Room, c.Num, c.Den, c.Noise, c.Chunks = 1+l.Intn(3), 15+l.Intn(60), 1+l.Intn(3), 3, l.Intn(5), 1+l.Intn(5)
		c.Workers, c.Cap, c.Shards = 1+l.Intn(6), l.Intn(3), 1+l.Intn(6)
	}
	return cs
}

// P25.1: lists of rounds of all kinds through cascades of all kinds, by engines that there are and that there aren't, each answer held against the chapter's words.
func TestListsOfCalls(t *testing.T) {
	counts := map[api.Errno]int{}
	refusedAt := map[int]int{}
	for seed := range int64(fewer(60)) {
		l := newLot(2600 + seed)
		hops := 1 + l.Intn(4)
		p := newPair(t, l.varied(hops))
		for range 40 {
			engine := l.Intn(3)
			if l.Intn(20) == 0 {
				engine = noEngines[l.Intn(len(noEngines))]
			}
			list := p.round(engine, l.batch(hops, p.m.states[0]), l.tapes(hops), l.script()...)
			end := list[len(list)-1]
			counts[end.Err]++
			if end.Err != api.OK {
				refusedAt[len(list)-1]++
			}
		}
	}
	for _, e := range []api.Errno{api.OK, api.ErrArg, api.ErrTape, api.ErrFull, api.ErrRound, api.ErrEpoch, api.ErrHop, api.ErrMore, api.ErrShort} {
		if counts[e] < 10 && !testing.Short() {
			t.Errorf("the rounds are too much alike: %v", counts)
			break
		}
	}
	if !testing.Short() && (refusedAt[0] < 50 || refusedAt[1] < 20 || refusedAt[2] < 10 || refusedAt[3] < 5) {
		t.Errorf("refused at each server: %v", refusedAt)
	}
}

// A play is one way to have a cascade play round number n.
type play func(n int, c *cascade.Cascade, raw []byte, tapes [][]byte) []api.Outcome

// plays: by each engine, with scripts of each kind, and by the engines in turns.
func plays() map[string]play {
	l := newLot(2561)
	by := func(engine int, script func(n int) []int) play {
		return func(n int, c *cascade.Cascade, raw []byte, tapes [][]byte) []api.Outcome {
			return c.Round(engine, raw, tapes, script(n))
		}
	}
	none := func(int) []int { return nil }
	return map[string]play{
		"mix":                   by(server.ByMix, none),
		"mix with a script":     by(server.ByMix, func(n int) []int { return []int{n, -n, 1 << 62} }),
		"crew":                  by(server.ByCrew, none),
		"crew with a script":    by(server.ByCrew, func(int) []int { return l.Perm(50) }),
		"line":                  by(server.ByLine, none),
		"line, an empty script": by(server.ByLine, func(int) []int { return []int{} }),
		"line, the last task":   by(server.ByLine, func(int) []int { return slices.Repeat([]int{-1}, 2000) }),
		"line, the greatest":    by(server.ByLine, func(int) []int { return slices.Repeat([]int{1<<63 - 1, -1 << 63}, 1000) }),
		"line, any script":      by(server.ByLine, func(int) []int { return l.Perm(l.Intn(900)) }),
		"in turns": func(n int, c *cascade.Cascade, raw []byte, tapes [][]byte) []api.Outcome {
			return c.Round(n%3, raw, tapes, []int{7, n})
		},
		"by chance": func(n int, c *cascade.Cascade, raw []byte, tapes [][]byte) []api.Outcome {
			return c.Round(l.Intn(3), raw, tapes, l.script())
		},
	}
}

// P2: the same batches and tapes by any engine and any script: the outcomes are those of round.Mix, server by server, refused ones too.
func TestEnginesDoNotShow(t *testing.T) {
	for seed := range int64(fewer(10)) {
		l := newLot(2670 + seed)
		hops := 1 + l.Intn(4)
		cs := l.varied(hops)
		m := &model{cs, make([]api.State, hops)}
		type played struct {
			raw   []byte
			tapes [][]byte
			want  []api.Outcome
		}
		var row []played
		for range 12 {
			x := played{raw: l.batch(hops, m.states[0]), tapes: l.tapes(hops)}
			x.want = m.round(0, x.raw, x.tapes)
			row = append(row, x)
		}
		for what, play := range plays() {
			c := must(cascade.New(cs))
			for n, x := range row {
				if got := play(n, c, x.raw, x.tapes); !sameOutcomes(got, x.want) {
					t.Fatalf("%s, round %d of row %d:%s\nwant:%s", what, n, seed, told(got), told(x.want))
				}
			}
		}
	}
}

// P2: nor do workers, capacities and shards show, whatever the engine.
func TestWorkersDoNotShow(t *testing.T) {
	raw, tapes := entry(8, 5, 2, sentAll(2, 5, 0, 12)...), loud(2, 400, 2562)
	want := newPair(t, configs(2)).round(0, raw, tapes)
	for _, x := range [][3]int{{1, 0, 1}, {64, 0, 64}, {1, 1024, 5}, {64, 1024, 1}, {7, 2, 3}} {
		cs := configs(2)
		for i := range cs {
			cs[i].Workers, cs[i].Cap, cs[i].Shards = x[0], x[1], x[2]
		}
		for _, engine := range engines {
			if got := must(cascade.New(cs)).Round(engine, raw, tapes, []int{3, 1, 4}); !through(want, 2) || !sameOutcomes(got, want) {
				t.Errorf("%v by %d:%s\nwant:%s", x, engine, told(got), told(want))
			}
		}
	}
}

// P25.2: a payload in layers comes out just once behind the last server, from any place of a batch, among other clients' cells, such as are malformed at one of the servers, such as stand there twice, and noise.
func TestThroughFromAnyPlace(t *testing.T) {
	for hops := 1; hops <= 8; hops++ {
		others := append(sentAll(hops, 5, 1, 4), sent(hops, 5, 1), make([]byte, 320), some(320, 2563), sent(hops, 6, 5), turned(sent(hops, 5, 6), 40, 1), about(hops, hops/2, 5, 7, []byte("no onion")))
		for at := range len(others) + 1 {
			cells := slices.Insert(slices.Clone(others), at, sent(hops, 5, 0))
			list := newPair(t, configs(hops)).round(at%3, entry(8, 5, hops, cells...), loud(hops, 300, int64(at)), at)
			if !through(list, hops) || !slices.Equal(out(t, list), expected(0, 1, 2, 3)) {
				t.Errorf("%d hops, place %d: %q%s", hops, at, out(t, list), told(list))
			}
			for _, o := range list {
				if o.Report.Noise != 2 {
					t.Errorf("%d hops, place %d: no noise%s", hops, at, told(list))
				}
			}
		}
	}
}

// P25.2: payloads of each length, bytes of any kind, come through as they are.
func TestThroughAsTheyAre(t *testing.T) {
	var cells [][]byte
	var want []string
	for length := range 49 {
		for _, p := range [][]byte{some(length, int64(length)), make([]byte, length)} {
			cells = append(cells, must(cascade.Submit(masters(3), 5, nonces(3, len(cells)), p)))
			want = append(want, string(p))
		}
	}
	slices.Sort(want)
	list := newPair(t, configs(3)).round(1, entry(8, 5, 3, cells...), loud(3, 1500, 2564))
	if !through(list, 3) || !slices.Equal(out(t, list), want) {
		t.Errorf("%q%s", out(t, list), told(list))
	}
}

// P25.2: the fullest batch, with the noise that goes into it.
func TestThroughAFullBatch(t *testing.T) {
	cells := sentAll(2, 5, 0, 254)
	list := newPair(t, configs(2)).round(1, entry(8, 5, 2, append(cells, cells[0], cells[9])...), loud(2, 3000, 2565))
	var all []int
	for k := range 254 {
		all = append(all, k)
	}
	if !through(list, 2) || list[0].Report.Out != 256 || list[1].Report.In != 256 || !slices.Equal(out(t, list), expected(all...)) {
		t.Errorf("%s", told(list))
	}
}

// P25.2: rounds one behind the other, at old and new epochs, with payloads of one and the same text from several clients: each comes out as often as it was sent.
func TestThroughRoundByRound(t *testing.T) {
	for seed := range int64(fewer(12)) {
		l := newLot(2700 + seed)
		hops := 1 + l.Intn(4)
		p := newPair(t, configs(hops))
		client := 0
		for n := range 8 {
			epoch := int64(5 + n/3)
			var cells [][]byte
			var want []string
			for range l.Intn(6) {
				text := fmt.Sprint("text ", l.Intn(3))
				cells = append(cells, must(cascade.Submit(masters(hops), epoch, nonces(hops, client), []byte(text))))
				want = append(want, text)
				client++
			}
			slices.Sort(want)
			list := p.round(l.Intn(3), entry(int64(n), epoch, hops, cells...), loud(hops, 200, l.Int63()%1000), l.script()...)
			if !through(list, hops) || !slices.Equal(out(t, list), want) {
				t.Errorf("row %d, round %d: %q; want %q%s", seed, n, out(t, list), want, told(list))
			}
		}
	}
}

// P25.2: what it asks for is needed: another cell with the replay tag at a later server takes the place of the one behind it there, and the payload still comes out just once.
func TestSameOnionInOtherLayers(t *testing.T) {
	for hops := 2; hops <= 4; hops++ {
		for layers := 1; layers < hops; layers++ {
			for _, engine := range engines {
				p := newPair(t, configs(hops))
				twin := about(hops, layers, 5, 77, inside(hops, layers, 5, 1))
				list := p.round(engine, entry(8, 5, hops, sent(hops, 5, 1), twin, sent(hops, 5, 2)), loud(hops, 200, 2566))
				if !through(list, hops) || list[layers].Report.Replays != 1 || list[0].Report.Replays != 0 || !slices.Equal(out(t, list), expected(1, 2)) {
					t.Errorf("%d hops, alike behind %d:%s", hops, layers, told(list))
				}
				again := about(hops, layers, 5, 78, inside(hops, layers, 5, 1))
				list = p.round(engine, entry(9, 5, hops, again), loud(hops, 200, 2566))
				if !through(list, hops) || list[layers].Report.Replays != 1 || len(out(t, list)) != 0 {
					t.Errorf("%d hops, alike behind %d, in the next round:%s", hops, layers, told(list))
				}
			}
		}
	}
}

// P25.2 and P24.3: a server that refused a round doesn't know its cells: in other layers about it the same onion comes through there.
func TestAsFreshBehindARefusal(t *testing.T) {
	for at := 1; at < 4; at++ {
		p := newPair(t, configs(4))
		tapes := loud(4, 200, 2567)
		p.round(0, entry(8, 5, 4, sent(4, 5, 1)), tapes[:at])
		list := p.round(1, entry(9, 5, 4, about(4, at, 5, 77, inside(4, at, 5, 1))), tapes)
		if !through(list, 4) || !slices.Equal(out(t, list), expected(1)) {
			t.Errorf("refused at %d:%s", at, told(list))
		}
	}
}

// P6: how many cells go out of each server is how many were fresh and the noise, whatever became of the others; all of one length.
func TestAllAlike(t *testing.T) {
	l := newLot(2568)
	for range fewer(60) {
		hops := 1 + l.Intn(4)
		list := newPair(t, configs(hops)).round(l.Intn(3), entry(1, 5, hops, l.cells(hops, 5)...), loud(hops, 300, l.Int63()%1000))
		if !through(list, hops) {
			t.Errorf("%s", told(list))
		}
		for _, o := range list {
			r := o.Report
			if b, _, e := frame.Read(o.Out); e != api.OK || len(b.Cells) != r.Out || r.Out != r.In-r.Malformed-r.Replays+r.Noise || r.Noise != 2 || len(o.Out) != 28+322*r.Out {
				t.Errorf("%s", told(list))
			}
		}
	}
}

// checkAddsNothing: two cascades that were alike so far play a batch, the one with and the other without what adds nothing: the same bytes go out at every server, and both are alike again.
func checkAddsNothing(t *testing.T, what string, engine int, a, b *pair, with, without []byte, tapes [][]byte) []api.Outcome {
	t.Helper()
	first, second := a.round(engine, with, tapes, 2, 7), b.round((engine+1)%3, without, tapes)
	if !sameOuts(first, second) {
		t.Errorf("%s: with it:%s\nwithout it:%s", what, told(first), told(second))
	}
	for i, o := range first {
		if !sameState(o.State, second[i].State) || i > 0 && !sameOutcome(o, second[i]) {
			t.Errorf("%s: server %d with it:%s\nwithout it:%s", what, i, told(first), told(second))
		}
	}
	return first
}

// P25.3: a cell that stands in a batch twice, at any two places: with the second one left out the same tapes give the same bytes at every server.
func TestTwiceInABatch(t *testing.T) {
	for hops := 1; hops <= 4; hops++ {
		cells := append(sentAll(hops, 5, 0, 4), make([]byte, 320))
		for first := range 4 {
			for second := first + 1; second <= len(cells); second++ {
				a, b := newPair(t, configs(hops)), newPair(t, configs(hops))
				twice := slices.Insert(slices.Clone(cells), second, cells[first])
				list := checkAddsNothing(t, fmt.Sprintf("%d hops, %d again at %d", hops, first, second), first%3, a, b, entry(8, 5, hops, twice...), entry(8, 5, hops, cells...), loud(hops, 200, int64(second)))
				if !through(list, hops) || list[0].Report != (api.Report{In: 6, Malformed: 1, Replays: 1, Noise: 2, Out: 6}) || !slices.Equal(out(t, list), expected(0, 1, 2, 3)) {
					t.Errorf("%d hops, %d again at %d:%s", hops, first, second, told(list))
				}
			}
		}
	}
	full := slices.Repeat([][]byte{sent(3, 5, 1)}, 256)
	list := checkAddsNothing(t, "a full batch of one cell", 0, newPair(t, configs(3)), newPair(t, configs(3)), entry(8, 5, 3, full...), entry(8, 5, 3, full[0]), loud(3, 200, 2569))
	if !through(list, 3) || list[0].Report.Replays != 255 || !slices.Equal(out(t, list), expected(1)) {
		t.Errorf("a full batch of one cell:%s", told(list))
	}
}

// P25.3: a cell again in a later round of the same epoch, at any place, alone and among new ones; rounds of a newer epoch between, while the window keeps the old one.
func TestAgainInALaterRound(t *testing.T) {
	for hops := 1; hops <= 4; hops++ {
		for between := range 3 {
			a, b := newPair(t, configs(hops)), newPair(t, configs(hops))
			tapes := loud(hops, 200, 2570)
			for _, p := range []*pair{a, b} {
				p.round(0, entry(1, 5, hops, sentAll(hops, 5, 0, 3)...), tapes)
				for n := range between {
					p.round(1, entry(int64(2+n), int64(5+n), hops, sent(hops, int64(5+n), 9)), tapes)
				}
			}
			for at := range 3 {
				fresh := sentAll(hops, 5, 10+2*at, 12+2*at)
				again := slices.Insert(slices.Clone(fresh), at, sent(hops, 5, at))
				round := int64(10 + at)
				list := checkAddsNothing(t, fmt.Sprintf("%d hops, again at %d", hops, at), at, a, b, entry(round, 5, hops, again...), entry(round, 5, hops, fresh...), tapes)
				if !through(list, hops) || list[0].Report.Replays != 1 || !slices.Equal(out(t, list), expected(10+2*at, 11+2*at)) {
					t.Errorf("%d hops, again at %d:%s", hops, at, told(list))
				}
			}
			list := checkAddsNothing(t, "all again, backwards", 2, a, b, entry(20, 5, hops, sent(hops, 5, 2), sent(hops, 5, 1), sent(hops, 5, 0)), entry(20, 5, hops), tapes)
			if !through(list, hops) || list[0].Report != (api.Report{In: 3, Replays: 3, Noise: 2, Out: 2}) || len(out(t, list)) != 0 {
				t.Errorf("%d hops, all again:%s", hops, told(list))
			}
		}
	}
}

// P25.3: it is enough that the earlier round went through at the first server; refused there, the cell is as fresh as before.
func TestAgainBehindARefusal(t *testing.T) {
	tapes := loud(3, 200, 2571)
	for at := range 3 {
		for _, engine := range engines {
			a, b := newPair(t, configs(3)), newPair(t, configs(3))
			for _, p := range []*pair{a, b} {
				p.round(engine, entry(1, 5, 3, sent(3, 5, 0)), tapes[:at])
			}
			with, without := entry(2, 5, 3, sent(3, 5, 1), sent(3, 5, 0)), entry(2, 5, 3, sent(3, 5, 1))
			if at == 0 {
				if list := a.round(engine, with, tapes); !through(list, 3) || !slices.Equal(out(t, list), expected(0, 1)) {
					t.Errorf("refused at the first:%s", told(list))
				}
				continue
			}
			if list := checkAddsNothing(t, fmt.Sprint("refused at ", at), engine, a, b, with, without, tapes); !through(list, 3) || !slices.Equal(out(t, list), expected(1)) {
				t.Errorf("refused at %d:%s", at, told(list))
			}
		}
	}
}

// P25.3: its bounds: a cell again in a batch of another epoch is malformed, and one of an epoch that has fallen out of the window comes no further than the first server.
func TestAgainInAnotherEpoch(t *testing.T) {
	p := newPair(t, configs(3))
	tapes := loud(3, 200, 2572)
	p.round(0, entry(1, 5, 3, sent(3, 5, 0)), tapes)
	if list := p.round(1, entry(2, 6, 3, sent(3, 5, 0)), tapes); !through(list, 3) || list[0].Report.Malformed != 1 || len(out(t, list)) != 0 {
		t.Errorf("in another epoch:%s", told(list))
	}
	if list := p.round(2, entry(3, 6, 3, sent(3, 6, 0)), tapes); !through(list, 3) || !slices.Equal(out(t, list), expected(0)) {
		t.Errorf("the same client in another epoch:%s", told(list))
	}
	p.round(0, entry(4, 7, 3), tapes)
	if list := p.round(1, entry(5, 5, 3, sent(3, 5, 0)), tapes); !slices.Equal(errs(list), []api.Errno{api.ErrEpoch}) {
		t.Errorf("fallen out:%s", told(list))
	}
}

// P25.3: rows of rounds of any batches; into each as many cells that were there before are put as there is room for, at any place behind the first one.
func TestAgainInRowsOfRounds(t *testing.T) {
	replays := 0
	for seed := range int64(fewer(25)) {
		l := newLot(2800 + seed)
		hops := 1 + l.Intn(3)
		cs := l.varied(hops)
		for i := range cs {
			cs[i].Room, cs[i].Span = 400, 2
		}
		a, b := newPair(t, cs), newPair(t, cs)
		known := map[int64][][]byte{}
		for n := range int64(8) {
			epoch := 5 + n/3 - int64(l.Intn(2))*min(1, n/3)
			fresh := l.cells(hops, epoch)
			again := slices.Clone(fresh)
			for range l.Intn(5) {
				if len(known[epoch]) > 0 {
					again = slices.Insert(again, l.Intn(len(again)+1), known[epoch][l.Intn(len(known[epoch]))])
				}
				if len(fresh) > 0 {
					again = append(again, fresh[l.Intn(len(fresh))])
				}
			}
			list := checkAddsNothing(t, fmt.Sprintf("row %d, round %d", seed, n), l.Intn(3), a, b, entry(n, epoch, hops, again...), entry(n, epoch, hops, fresh...), l.tapes(hops))
			if list[0].Err == api.OK {
				known[epoch] = append(known[epoch], fresh...)
				replays += list[0].Report.Replays
			}
		}
	}
	if !testing.Short() && replays < 100 {
		t.Errorf("%d replays in all", replays)
	}
}
