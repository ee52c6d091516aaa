package cascade_test

import (
	"fmt"
	"math"
	"slices"
	"testing"

	"churn/api"
	"churn/cascade"
	"churn/frame"
	"churn/window"
)

// chapters: the chapter's three servers, and its tapes.
func chapters() ([]api.Config, [][]byte) {
	cs := configs(3)
	for i := range cs {
		cs[i].Span, cs[i].Room, cs[i].Noise = 1, 100, 2
	}
	return cs, loud(3, 200, 2520)
}

// P25.1: the chapter's examples, by each engine.
func TestExamples(t *testing.T) {
	for _, engine := range engines {
		cs, tapes := chapters()
		c := must(cascade.New(cs))
		a := must(cascade.Submit(masters(3), 5, nonces(3, 1), []byte("one")))
		b := must(cascade.Submit(masters(3), 5, nonces(3, 2), nil))

		list := c.Round(engine, entry(8, 5, 3, a, b, a), tapes, []int{1, 2, 3})
		want := []api.Report{{In: 3, Replays: 1, Noise: 2, Out: 4}, {In: 4, Malformed: 2, Noise: 2, Out: 4}, {In: 4, Malformed: 2, Noise: 2, Out: 4}}
		if !through(list, 3) || !slices.Equal(reports(list), want) || !slices.Equal(out(t, list), []string{"", "one"}) {
			t.Errorf("engine %d, a b a:%s", engine, told(list))
		}
		if p, e := cascade.Payloads(list[1].Out); e != api.ErrHop || len(p) != 0 {
			t.Errorf("the second Out: %q, error %d", p, e)
		}
		list = c.Round(engine, entry(9, 5, 3, b, a), tapes, nil)
		if !through(list, 3) || list[0].Report != (api.Report{In: 2, Replays: 2, Noise: 2, Out: 2}) || len(out(t, list)) != 0 {
			t.Errorf("engine %d, b a:%s", engine, told(list))
		}
		list = c.Round(engine, entry(20, 5, 3, sent(3, 5, 3)), tapes[:1], nil)
		if !slices.Equal(errs(list), []api.Errno{api.OK, api.ErrTape}) || list[0].State.Next != 21 || list[1].State.Next != 10 {
			t.Errorf("engine %d, one tape alone:%s", engine, told(list))
		}
	}
	checkNew(t, "no configurations", nil, api.ErrChain)
	checkNew(t, "one whose Left is 2", configs(2)[:1], api.ErrHop)
}

// P25.1: DOC.md's examples of the whole that are a cascade's.
func TestExamplesOfTheWhole(t *testing.T) {
	for _, engine := range engines {
		p := newPair(t, configs(3))
		if list := p.round(engine, entry(0, 5, 3, sent(3, 5, 1)), [][]byte{make([]byte, 17)}); !slices.Equal(errs(list), []api.Errno{api.ErrTape}) {
			t.Errorf("engine %d, a tape of 17 bytes:%s", engine, told(list))
		}
		list := p.round(engine, entry(7, 5, 3), slices.Repeat([][]byte{make([]byte, 18)}, 3))
		if !through(list, 3) || !slices.Equal(reports(list), make([]api.Report, 3)) || list[2].State.Next != 8 || len(out(t, list)) != 0 {
			t.Errorf("engine %d, no cells:%s", engine, told(list))
		}
		if list := p.round(engine, entry(8, 6, 3, sent(3, 5, 1)), quiet(3, 200, 2521), 5, -3, 1); !through(list, 3) || list[0].Report != (api.Report{In: 1, Malformed: 1}) {
			t.Errorf("engine %d, a cell in another epoch:%s", engine, told(list))
		}
	}
}

// checkNew: what New answers.
func checkNew(t *testing.T, what string, cs []api.Config, want api.Errno) {
	t.Helper()
	c, e := cascade.New(cs)
	if e != want || (c == nil) != (want != api.OK) {
		t.Errorf("%s: nil is %v, error %d; want %d", what, c == nil, e, want)
	}
}

// changed: right configurations, with something done to one of them.
func changed(hops, at int, change func(c *api.Config)) []api.Config {
	cs := configs(hops)
	change(&cs[at])
	return cs
}

// unfit: the ways in which a configuration doesn't fit, whatever its Left is.
func unfit() []func(c *api.Config) {
	return []func(c *api.Config){
		func(c *api.Config) { c.Master = nil },
		func(c *api.Config) { c.Master = c.Master[:31] },
		func(c *api.Config) { c.Master = make([]byte, 33) },
		func(c *api.Config) { c.Span = 0 },
		func(c *api.Config) { c.Span = 9 },
		func(c *api.Config) { c.Room = -1 },
		func(c *api.Config) { c.Room = 4097 },
		func(c *api.Config) { c.Num = 2 },
		func(c *api.Config) { c.Den = 0 },
		func(c *api.Config) { c.Noise = 17 },
		func(c *api.Config) { c.Chunks = 65 },
		func(c *api.Config) { c.Workers = 0 },
		func(c *api.Config) { c.Cap = math.MinInt },
		func(c *api.Config) { c.Shards = math.MaxInt },
		func(c *api.Config) { *c = api.Config{Left: c.Left} },
	}
}

// P25.1: New with as many configurations as there may be, with none and with too many.
func TestNew(t *testing.T) {
	for hops := range 20 {
		cs, want := configs(hops), api.OK
		if hops < 1 || hops > 8 {
			want = api.ErrChain
		}
		checkNew(t, fmt.Sprint(hops, " configurations"), cs, want)
	}
	checkNew(t, "an empty list", []api.Config{}, api.ErrChain)
	checkNew(t, "a thousand", make([]api.Config, 1000), api.ErrChain)
}

// P25.1: New with a configuration that doesn't fit, at each place: the error of server.New.
func TestNewUnfit(t *testing.T) {
	for hops := 1; hops <= 8; hops++ {
		for at := range hops {
			for n, change := range unfit() {
				checkNew(t, fmt.Sprintf("number %d of %d, way %d", at, hops, n), changed(hops, at, change), api.ErrConfig)
			}
			for _, left := range []int{0, -1, 9, math.MinInt, math.MaxInt} { // of no hop at all
				checkNew(t, fmt.Sprintf("number %d of %d, Left %d", at, hops, left), changed(hops, at, func(c *api.Config) { c.Left = left }), api.ErrConfig)
			}
		}
	}
}

// P25.1: New with a Left that is not how many configurations stand from it on, at each place.
func TestNewHop(t *testing.T) {
	for hops := 1; hops <= 8; hops++ {
		for at := range hops {
			for left := 1; left <= 8; left++ {
				want := api.ErrHop
				if left == hops-at {
					want = api.OK
				}
				checkNew(t, fmt.Sprintf("number %d of %d, Left %d", at, hops, left), changed(hops, at, func(c *api.Config) { c.Left = left }), want)
			}
		}
	}
	backwards := configs(3)
	slices.Reverse(backwards)
	checkNew(t, "the other way round", backwards, api.ErrHop)
	checkNew(t, "without the first", configs(3)[1:], api.OK)
	checkNew(t, "without the last", configs(3)[:2], api.ErrHop)
	checkNew(t, "all Left 1", []api.Config{configs(1)[0], configs(1)[0]}, api.ErrHop)
}

// P25.1: which of New's errors comes first: their number; then configuration by configuration, of each whether it fits, then its Left.
func TestNewOrder(t *testing.T) {
	wrongLeft := func(c *api.Config) { c.Left = c.Left%8 + 1 }
	noWorkers := func(c *api.Config) { c.Workers = 0 }
	both := func(c *api.Config) { wrongLeft(c); noWorkers(c) }
	nothing := func(*api.Config) {}
	for _, x := range []struct {
		what                 string
		first, second, third func(c *api.Config)
		want                 api.Errno
	}{
		{"nothing wrong", nothing, nothing, nothing, api.OK},
		{"Left, then a number", wrongLeft, noWorkers, nothing, api.ErrHop},
		{"a number, then Left", noWorkers, wrongLeft, nothing, api.ErrConfig},
		{"both in one", nothing, both, nothing, api.ErrConfig},
		{"both in one, behind a Left", wrongLeft, nothing, both, api.ErrHop},
		{"Left at the second, both at the third", nothing, wrongLeft, both, api.ErrHop},
		{"a number at the second, Left at the third", nothing, noWorkers, wrongLeft, api.ErrConfig},
		{"all Left", wrongLeft, wrongLeft, wrongLeft, api.ErrHop},
		{"all both", both, both, both, api.ErrConfig},
	} {
		cs := configs(3)
		x.first(&cs[0])
		x.second(&cs[1])
		x.third(&cs[2])
		checkNew(t, x.what, cs, x.want)
	}
	for _, change := range []func(c *api.Config){wrongLeft, noWorkers, both} {
		checkNew(t, "nine, the first wrong", changed(9, 0, change), api.ErrChain)
	}
}

// P25.1: a round over each number of servers, by each engine, with a tape for each.
func TestRound(t *testing.T) {
	for hops := 1; hops <= 8; hops++ {
		for _, engine := range engines {
			p := newPair(t, configs(hops))
			list := p.round(engine, entry(8, 5, hops, sentAll(hops, 5, 0, 3)...), loud(hops, 200, int64(hops)), 5, -3, 1)
			if !through(list, hops) || !slices.Equal(out(t, list), expected(0, 1, 2)) {
				t.Errorf("%d hops by %d:%s", hops, engine, told(list))
			}
			for i, o := range list {
				b, _, e := frame.Read(o.Out)
				if e != api.OK || b.Header != (api.Header{Round: 8, Epoch: 5, Left: hops - 1 - i}) || len(b.Cells) != 5 || o.State.Next != 9 || window.Len(o.State.Window) != 3 {
					t.Errorf("%d hops by %d, server %d: %+v%s", hops, engine, i, b.Header, told(list))
				}
			}
		}
	}
}

// P25.1: each server has a tape of its own: which one it is shows, and those of the others don't.
func TestEachServersTape(t *testing.T) {
	raw := entry(8, 5, 3, sentAll(3, 5, 0, 9)...)
	tapes := loud(3, 300, 2522)
	want := newPair(t, configs(3)).round(0, raw, tapes)
	for i := range 3 {
		other := slices.Clone(tapes)
		other[i] = loud(1, 300, 2523)[0]
		list := newPair(t, configs(3)).round(0, raw, other)
		if !through(list, 3) || !sameOutcomes(list[:i], want[:i]) || sameOutcome(list[i], want[i]) {
			t.Errorf("another tape at server %d:%s", i, told(list))
		}
	}
}

// P25.1: too few tapes: one that is not there is empty, and the round is refused at its server; too many: those behind the servers' count for nothing.
func TestNumberOfTapes(t *testing.T) {
	for hops := 1; hops <= 4; hops++ {
		raw, tapes := entry(8, 5, hops, sentAll(hops, 5, 0, 2)...), loud(hops+4, 200, 2524)
		for n := range hops + 5 {
			for _, engine := range engines {
				list := newPair(t, configs(hops)).round(engine, raw, tapes[:n])
				if n >= hops && !through(list, hops) || n < hops && (!through(list[:n], n) || len(list) != n+1 || list[n].Err != api.ErrTape) {
					t.Errorf("%d hops, %d tapes by %d:%s", hops, n, engine, told(list))
				}
				if want := newPair(t, configs(hops)).round(engine, raw, tapes[:hops]); n > hops && !sameOutcomes(list, want) {
					t.Errorf("%d hops, %d tapes by %d:%s\nwant:%s", hops, n, engine, told(list), told(want))
				}
			}
		}
		for _, none := range [][][]byte{nil, {}, {nil}, {{}}} {
			if list := newPair(t, configs(hops)).round(0, raw, none); !slices.Equal(errs(list), []api.Errno{api.ErrTape}) {
				t.Errorf("%d hops, no tape:%s", hops, told(list))
			}
		}
		gap := slices.Clone(tapes[:hops])
		gap[hops-1] = nil
		if list := newPair(t, configs(hops)).round(0, raw, gap); len(list) != hops || list[hops-1].Err != api.ErrTape {
			t.Errorf("%d hops, a nil tape:%s", hops, told(list))
		}
	}
}

// P25.1: an engine that there isn't: one outcome, ErrArg, and no server is further.
func TestNoSuchEngine(t *testing.T) {
	p := newPair(t, configs(2))
	raw, tapes := entry(8, 5, 2, sentAll(2, 5, 0, 2)...), loud(2, 200, 2525)
	for _, engine := range noEngines {
		for _, batch := range [][]byte{raw, nil} {
			if list := p.round(engine, batch, tapes, 1, 2); !sameOutcomes(list, []api.Outcome{{Err: api.ErrArg}}) {
				t.Errorf("engine %d:%s", engine, told(list))
			}
		}
	}
	if list := p.round(0, raw, tapes); !through(list, 2) || !slices.Equal(out(t, list), expected(0, 1)) {
		t.Errorf("then by one that there is:%s", told(list))
	}
	if list := p.round(3, entry(9, 5, 2), tapes); len(list) != 1 || list[0].Err != api.ErrArg || list[0].State.Next != 9 {
		t.Errorf("engine 3 behind a round:%s", told(list))
	}
}

// P25.1: bytes that the first server refuses, with their place; the cascade then goes on as if they had not come.
func TestRefusedBytes(t *testing.T) {
	raw, tapes := entry(8, 5, 2, sentAll(2, 5, 0, 2)...), loud(2, 200, 2526)
	want := newPair(t, configs(2)).round(0, raw, tapes)
	for _, x := range []struct {
		raw  []byte
		want api.Errno
		at   int
	}{
		{nil, api.ErrShort, 0}, {raw[:100], api.ErrShort, 100}, {turned(raw, 0, 1), api.ErrMagic, 0}, {turned(raw, 4, 1), api.ErrVersion, 4}, {turned(raw, 5, 64), api.ErrHeader, 5},
		{turned(raw, 6, 2), api.ErrCount, 6}, {turned(raw, 24, 7), api.ErrCell, 24}, {turned(raw, 99, 1), api.ErrFoot, len(raw) - 4}, {append(slices.Clone(raw), 1), api.ErrMore, len(raw)},
		{entry(8, 5, 1), api.ErrHop, 0}, {entry(8, 5, 3), api.ErrHop, 0}, {entry(8, 5, 0), api.ErrHop, 0}, {entry(8, 1025, 2), api.ErrEpoch, 0},
	} {
		for _, engine := range engines {
			p := newPair(t, configs(2))
			if list := p.round(engine, x.raw, tapes); !sameOutcomes(list, []api.Outcome{{Err: x.want, At: x.at}}) {
				t.Errorf("engine %d:%s\nwant %d at %d", engine, told(list), x.want, x.at)
			}
			if list := p.round(engine, raw, tapes); !sameOutcomes(list, want) {
				t.Errorf("engine %d, behind error %d:%s", engine, x.want, told(list))
			}
		}
	}
}

// P25.1: refused at the first server, in the middle and at the last, for want of a tape, and then played on: those that went through are one round further, the others not.
func TestRefusedAndPlayedOn(t *testing.T) {
	for hops := 1; hops <= 4; hops++ {
		tapes := loud(hops, 200, 2527)
		for at := range hops {
			for _, engine := range engines {
				p := newPair(t, configs(hops))
				p.round(engine, entry(2, 5, hops, sent(hops, 5, 0)), tapes)
				cells := sentAll(hops, 5, 1, 4)
				list := p.round(engine, entry(8, 5, hops, cells...), tapes[:at])
				if len(list) != at+1 || !through(list[:at], at) || list[at].Err != api.ErrTape || list[at].State.Next != 3 || window.Len(list[at].State.Window) != 1 || len(list[at].Out) > 0 {
					t.Fatalf("%d hops, refused at %d by %d:%s", hops, at, engine, told(list))
				}
				playedOn(t, p, engine, at, cells, tapes)
			}
		}
	}
}

// playedOn: what a cascade, whose rounds 2 and 8 were played, the second with these cells and refused at a server, comes to then.
func playedOn(t *testing.T, p *pair, engine, at int, cells, tapes [][]byte) {
	t.Helper()
	hops := len(tapes)
	list := p.round(engine, entry(8, 5, hops, cells...), tapes)
	if at > 0 { // the first server is further
		if !slices.Equal(errs(list), []api.Errno{api.ErrRound}) || list[0].State.Next != 9 {
			t.Errorf("%d hops, refused at %d, the same batch:%s", hops, at, told(list))
		}
		list = p.round(engine, entry(9, 5, hops, cells...), tapes)
		if !through(list, hops) || list[0].Report.Replays != 3 || len(out(t, list)) != 0 {
			t.Errorf("%d hops, refused at %d, the same cells:%s", hops, at, told(list))
		}
	} else if !through(list, hops) || !slices.Equal(out(t, list), expected(1, 2, 3)) {
		t.Errorf("%d hops, refused at 0, the same batch:%s", hops, told(list))
	}
	list = p.round(engine, entry(10, 5, hops, append(cells, sent(hops, 5, 9))...), tapes)
	if !through(list, hops) || !slices.Equal(out(t, list), expected(9)) || list[hops-1].State.Next != 11 {
		t.Errorf("%d hops, refused at %d, the next batch:%s", hops, at, told(list))
	}
}

// P25.1: behind rounds that other servers refused, each server is where it was left: its state shows in a round that it refuses itself.
func TestStatesAreEachServersOwn(t *testing.T) {
	tapes := loud(4, 200, 2528)
	for i, next := range []int64{14, 13, 12, 11} {
		for _, engine := range engines {
			p := newPair(t, configs(4))
			for n := range 4 { // the last n servers don't get to round 10 + n
				p.round(engine, entry(int64(10+n), 5, 4, sent(4, 5, n)), tapes[:4-n])
			}
			list := p.round(engine, entry(20, 5, 4), tapes[:i])
			if len(list) != i+1 || list[i].Err != api.ErrTape || list[i].State.Next != next || window.Len(list[i].State.Window) != int(next-10) {
				t.Errorf("server %d by %d; want Next %d:%s", i, engine, next, told(list))
			}
		}
	}
}

// P25.1: the causes for which a later server alone can refuse: its window is full, its epochs are others, it is too crowded, its tape is too short for the shuffle.
func TestRefusedInTheMiddle(t *testing.T) {
	tapes := loud(3, 3000, 2530)
	for _, engine := range engines {
		for at := 1; at < 3; at++ {
			full := newPair(t, changed(3, at, func(c *api.Config) { c.Room = 3 }))
			if list := full.round(engine, entry(1, 5, 3, sentAll(3, 5, 0, 2)...), tapes); !through(list, 3) {
				t.Errorf("room for three, two cells:%s", told(list))
			}
			if list := full.round(engine, entry(2, 5, 3, sentAll(3, 5, 2, 4)...), tapes); len(list) != at+1 || list[at].Err != api.ErrFull || list[at].State.Next != 2 {
				t.Errorf("room for three, four cells:%s", told(list))
			}
			if list := full.round(engine, entry(3, 5, 3, sentAll(3, 5, 2, 5)...), tapes); !through(list, 3) || list[0].Report.Replays != 2 || !slices.Equal(out(t, list), expected(4)) {
				t.Errorf("room for three, three cells:%s", told(list))
			}

			old := newPair(t, changed(3, at, func(c *api.Config) { c.Span = 1 }))
			old.round(engine, entry(1, 6, 3), tapes)
			if list := old.round(engine, entry(2, 5, 3, sent(3, 5, 0)), tapes); len(list) != at+1 || list[at].Err != api.ErrEpoch {
				t.Errorf("a shorter span:%s", told(list))
			}

			far := newPair(t, configs(3))
			far.round(engine, entry(1, 1000, 3), tapes[:at])
			if list := far.round(engine, entry(2, 1025, 3), tapes); len(list) != at+1 || list[at].Err != api.ErrEpoch || list[at].State.Window.Newest != 0 {
				t.Errorf("an epoch too far ahead:%s", told(list))
			}
			if list := far.round(engine, entry(3, 1024, 3, sent(3, 1024, 0)), tapes); !through(list, 3) || !slices.Equal(out(t, list), expected(0)) {
				t.Errorf("an epoch just near enough:%s", told(list))
			}

			short := slices.Clone(tapes)
			short[at] = short[at][:20]
			if list := newPair(t, configs(3)).round(engine, entry(1, 5, 3, sentAll(3, 5, 0, 5)...), short); len(list) != at+1 || list[at].Err != api.ErrTape {
				t.Errorf("a short tape:%s", told(list))
			}
		}
	}
}

// P25.1: a later server that is too crowded, where the one ahead of it was not.
func TestCrowdInTheMiddle(t *testing.T) {
	cs := configs(2)
	cs[0].Noise = 0
	for n, want := range map[int]api.Errno{254: api.OK, 255: api.ErrCrowd, 256: api.ErrCrowd} {
		p := newPair(t, cs)
		list := p.round(1, entry(1, 5, 2, sentAll(2, 5, 0, n)...), loud(2, 3000, 2531))
		if !slices.Equal(errs(list), []api.Errno{api.OK, want}) {
			t.Errorf("%d cells:%s", n, told(list))
		}
	}
}

// P25.1: the last round of all, behind which none comes any more, and the last epoch.
func TestLastRound(t *testing.T) {
	p := newPair(t, configs(2))
	tapes := loud(2, 200, 2532)
	if list := p.round(0, entry(top-1, 5, 2, sent(2, 5, 0)), tapes); !through(list, 2) || list[1].State.Next != top {
		t.Errorf("%s", told(list))
	}
	if list := p.round(0, entry(top-1, 5, 2, sent(2, 5, 1)), tapes); !slices.Equal(errs(list), []api.Errno{api.ErrRound}) {
		t.Errorf("behind it:%s", told(list))
	}
}

// P25.1: a nil cascade: no outcomes, whatever it is asked.
func TestNilCascade(t *testing.T) {
	var none *cascade.Cascade
	raw := entry(8, 5, 2, sentAll(2, 5, 0, 2)...)
	for _, engine := range append(slices.Clone(engines), noEngines...) {
		for _, list := range [][]api.Outcome{none.Round(engine, raw, loud(2, 200, 2533), []int{1}), none.Round(engine, nil, nil, nil), none.Round(engine, nil, [][]byte{nil}, []int{})} {
			if len(list) != 0 {
				t.Errorf("engine %d:%s", engine, told(list))
			}
		}
	}
}

// Rule 1: a cascade that New didn't make: no panic, and no round goes through.
func TestCascadeThatNobodyMade(t *testing.T) {
	var c cascade.Cascade
	if list := c.Round(0, entry(8, 5, 2), loud(2, 200, 2534), nil); len(list) != 0 {
		t.Errorf("%s", told(list))
	}
}

func ExampleCascade() {
	c, e := cascade.New(configs(3)) // three hops, each with noise
	fmt.Println(e)
	a, _ := cascade.Submit(masters(3), 5, nonces(3, 1), []byte("one"))
	b, _ := cascade.Submit(masters(3), 5, nonces(3, 2), []byte("two"))
	raw, _ := cascade.Entry(8, 5, 3, [][]byte{a, b, a})
	outcomes := c.Round(1, raw, loud(3, 200, 1), nil)
	for _, o := range outcomes {
		fmt.Println(o.Err, o.Report)
	}
	payloads, e := cascade.Payloads(outcomes[2].Out)
	fmt.Println(sorted(payloads), e)
	// Output:
	// churn: error 0
	// churn: error 0 {3 0 1 2 4}
	// churn: error 0 {4 2 0 2 4}
	// churn: error 0 {4 2 0 2 4}
	// [one two] churn: error 0
}
