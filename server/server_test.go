package server_test

import (
	"fmt"
	"math"
	"slices"
	"testing"

	"churn/api"
	"churn/frame"
	"churn/round"
	"churn/server"
	"churn/window"
)

// last: the chapter's configuration: Left 1, Span 2, Room 3, no noise, 2 chunks.
func last() api.Config {
	return api.Config{Master: master, Left: 1, Span: 2, Room: 3, Num: 1, Den: 2, Noise: 0, Chunks: 2, Workers: 4, Cap: 2, Shards: 3}
}

// P24.1: the chapter's examples, by each engine.
func TestExamples(t *testing.T) {
	a, b, tape := sent(1, 0, 1), sent(1, 0, 2), some(60, 2401)
	for _, engine := range engines {
		s := must(server.New(last()))
		at := func(round, epoch int64, list ...[]byte) []byte {
			return packed(api.Header{Round: round, Epoch: epoch, Left: 1}, list...)
		}
		o := s.Round(engine, at(0, 0, a, make([]byte, 320), a, b), tape, nil)
		if o.Err != api.OK || o.Report != (api.Report{In: 4, Malformed: 1, Replays: 1, Out: 2}) || o.State.Next != 1 || window.Len(o.State.Window) != 2 || !sameState(s.State(), o.State) {
			t.Errorf("engine %d, a, noughts, a, b: %s", engine, told(o))
		}
		first := o.State
		o = s.Round(engine, at(0, 0), tape, nil)
		if !sameOutcome(o, api.Outcome{State: first, Err: api.ErrRound}) || !sameState(s.State(), first) {
			t.Errorf("engine %d, Round 0 again: %s", engine, told(o))
		}
		o = s.Round(engine, at(9, 1, sent(1, 1, 1), sent(1, 1, 2)), tape, nil)
		if !sameOutcome(o, api.Outcome{State: first, Err: api.ErrFull}) || s.State().Next != 1 || s.State().Window.Newest != 0 {
			t.Errorf("engine %d, four tags: %s", engine, told(o))
		}
		o = s.Round(engine, at(9, 0, b, a), tape[:18], nil)
		if o.Err != api.OK || o.Report != (api.Report{In: 2, Replays: 2}) || !slices.Equal(o.Out, packed(api.Header{Round: 9})) || s.State().Next != 10 {
			t.Errorf("engine %d, b and a again: %s", engine, told(o))
		}
		second := o.State
		if o = s.Round(3, at(10, 0), tape, nil); !sameOutcome(o, api.Outcome{State: second, Err: api.ErrArg}) {
			t.Errorf("engine 3: %s", told(o))
		}
		s.Put(at(10, 0)[:5])
		if o = s.Finish(tape); !sameOutcome(o, api.Outcome{State: second, Err: api.ErrShort, At: 5}) {
			t.Errorf("five bytes: %s", told(o))
		}
	}
}

// P24.1 and P2: DOC.md's examples of the whole that are a server's, by each engine.
func TestExamplesOfTheWhole(t *testing.T) {
	for _, engine := range engines {
		c := config()
		s := must(server.Load(c, api.State{Window: api.Window{Newest: 9}}))
		if o := s.Round(engine, packed(header(0, 9), cells[:3]...), some(17, 2402), nil); o.Err != api.ErrTape {
			t.Errorf("engine %d, a tape of 17 bytes: %s", engine, told(o))
		}
		if o := s.Round(engine, packed(header(4, 9)), make([]byte, 18), nil); o.Err != api.OK || o.Report != (api.Report{}) || o.State.Next != 5 {
			t.Errorf("engine %d, no cells and 18 noughts: %s", engine, told(o))
		}
		twin := must(server.Load(c, s.State()))
		once, twice := s.Round(engine, packed(header(5, 9), cells[0], cells[1]), some(300, 2403), nil), twin.Round(engine, packed(header(5, 9), cells[0], cells[1], cells[0]), some(300, 2403), nil)
		if once.Err != api.OK || twice.Report.Replays != 1 || !slices.Equal(once.Out, twice.Out) || !sameState(s.State(), twin.State()) {
			t.Errorf("engine %d, a cell twice: %s; once: %s", engine, told(twice), told(once))
		}
		if o := s.Round(engine, packed(header(6, 10), cells[5]), some(300, 2404), []int{5, -3, 1}); o.Err != api.OK || o.Report.Malformed != 1 {
			t.Errorf("engine %d, a cell in another epoch: %s", engine, told(o))
		}
	}
}

// fields: each number of a configuration.
func fields(c *api.Config) []*int {
	return []*int{&c.Left, &c.Span, &c.Room, &c.Num, &c.Den, &c.Noise, &c.Chunks, &c.Workers, &c.Cap, &c.Shards}
}

// ranges: from where to where each of them is right, in config.
var ranges = [][2]int{{1, 8}, {1, 8}, {0, 4096}, {0, 3}, {2, 1000}, {0, 16}, {1, 64}, {1, 64}, {0, 1024}, {1, 64}}

// checkLoad: what Load says of a configuration and a state, and New where the state is zero.
func checkLoad(t *testing.T, what string, c api.Config, state api.State, want api.Errno) {
	t.Helper()
	if e := round.Check(c, state); e != want {
		t.Fatalf("%s: round.Check tells %d; want %d", what, e, want)
	}
	s, e := server.Load(c, state)
	if e != want || (s == nil) != (want != api.OK) {
		t.Errorf("%s: a nil server is %v, error %d; want %d", what, s == nil, e, want)
	}
	if s != nil && !sameState(s.State(), state) {
		t.Errorf("%s: the state is at %s; want %s", what, stateTold(s.State()), stateTold(state))
	}
	if sameState(state, api.State{}) {
		if s, e := server.New(c); e != want || (s == nil) != (want != api.OK) || s != nil && !sameState(s.State(), state) {
			t.Errorf("%s: New: a nil server is %v, error %d; want %d", what, s == nil, e, want)
		}
	}
}

// P24.1: New and Load with each number of the configuration at both its ends, one past them, and far outside.
func TestConfigurations(t *testing.T) {
	checkLoad(t, "config", config(), api.State{}, api.OK)
	checkLoad(t, "nothing", api.Config{}, api.State{}, api.ErrConfig)
	for i, ends := range ranges {
		for _, x := range []int{ends[0], ends[1], ends[0] - 1, ends[1] + 1, math.MaxInt, math.MinInt} {
			c, want := config(), api.OK
			*fields(&c)[i] = x
			if x < ends[0] || x > ends[1] {
				want = api.ErrConfig
			}
			checkLoad(t, fmt.Sprintf("number %d is %d", i, x), c, api.State{}, want)
		}
	}
	for _, length := range []int{0, 1, 31, 32, 33, 64} {
		c, want := config(), api.ErrConfig
		c.Master = make([]byte, length)
		if length == 32 {
			want = api.OK
		}
		checkLoad(t, fmt.Sprint("a master key of ", length), c, api.State{}, want)
	}
}

// P24.1: Load with states that fit and such as don't.
func TestStates(t *testing.T) {
	c := config()
	c.Span, c.Room = 2, 3
	epoch := func(number int64, tags ...byte) (e api.Epoch) {
		e.Number = number
		for _, tag := range tags {
			e.Tags = append(e.Tags, [16]byte{tag})
		}
		return e
	}
	at := func(next, newest int64, epochs ...api.Epoch) api.State {
		return api.State{Next: next, Window: api.Window{Newest: newest, Epochs: epochs}}
	}
	for _, s := range []api.State{
		{}, at(1, 0), at(1<<62, 0), at(0, 1<<62), at(0, 5, epoch(5, 1)), at(0, 5, epoch(4, 1)), at(7, 5, epoch(4, 1, 3), epoch(5, 2)), at(7, 5, epoch(5, 1, 2, 3)), at(3, 5, []api.Epoch{}...),
	} {
		checkLoad(t, fmt.Sprintf("%+v", s), c, s, api.OK)
	}
	for _, s := range []api.State{
		at(-1, 0), at(1<<62+1, 0), at(math.MinInt64, 0), at(math.MaxInt64, 0), at(0, -1), at(0, 1<<62+1), at(0, math.MaxInt64), at(0, math.MinInt64),
		at(0, 5, epoch(6, 1)), at(0, 5, epoch(3, 1)), at(0, 5, epoch(5)), at(0, 5, epoch(5, 2, 1)), at(0, 5, epoch(5, 1, 1)), at(0, 5, epoch(5, 1), epoch(4, 2)), at(0, 5, epoch(4, 1), epoch(4, 2)), at(0, 5, epoch(4, 1), epoch(5, 1)), at(0, 5, epoch(5, 1, 2, 3, 4)), at(0, 5, epoch(4, 1, 2), epoch(5, 3, 4)), at(0, 0, epoch(-1, 1)),
	} {
		checkLoad(t, fmt.Sprintf("%+v", s), c, s, api.ErrConfig)
	}
}

// P24.1: a wrong configuration with a state that doesn't fit, too.
func TestBothWrong(t *testing.T) {
	checkLoad(t, "both", api.Config{Left: 9}, api.State{Next: -1}, api.ErrConfig)
	c := config()
	c.Room = 2
	checkLoad(t, "room for two of three", c, held(3), api.ErrConfig)
	c.Room = 3
	checkLoad(t, "room for three", c, held(3), api.OK)
}

// P24.1: State ahead of any round, behind rounds that went through and behind refused ones.
func TestState(t *testing.T) {
	for _, engine := range engines {
		p := newPair(t, config(), held(3))
		p.sameState("ahead of any round")
		if s := p.s.State(); !sameState(s, held(3)) {
			t.Errorf("loaded: %s", stateTold(s))
		}
		o := p.round(engine, packed(header(5, 9), cells[:4]...), loud(400, 2405))
		if o.Err != api.OK || !sameState(p.s.State(), o.State) || p.s.State().Next != 6 || window.Len(p.s.State().Window) != 7 {
			t.Errorf("engine %d: %s; state at %s", engine, told(o), stateTold(p.s.State()))
		}
		before := p.s.State()
		if o := p.round(engine, packed(header(5, 9), cells[4:6]...), loud(400, 2405)); o.Err != api.ErrRound || !sameState(p.s.State(), before) || !sameState(o.State, before) {
			t.Errorf("engine %d, refused: %s; state at %s", engine, told(o), stateTold(p.s.State()))
		}
		if o := p.round(engine, packed(header(80, 11), cells[4:6]...), loud(400, 2405)); o.Err != api.OK || p.s.State().Next != 81 || p.s.State().Window.Newest != 11 || window.Len(p.s.State().Window) != 7 {
			t.Errorf("engine %d, a newer epoch: %s; state at %s", engine, told(o), stateTold(p.s.State()))
		}
		if o := p.round(engine, packed(header(81, 12)), loud(400, 2405)); o.Err != api.OK || window.Len(p.s.State().Window) != 0 {
			t.Errorf("engine %d, the tags fall out: %s; state at %s", engine, told(o), stateTold(p.s.State()))
		}
	}
}

// P24.1: an engine that there isn't: ErrArg, the state as it is, and all else zero, whatever the bytes are; nothing is played.
func TestNoSuchEngine(t *testing.T) {
	s := must(server.Load(config(), held(3)))
	good := packed(header(5, 9), cells[:4]...)
	for _, engine := range noEngines {
		for _, raw := range [][]byte{good, nil, good[:7], packed(api.Header{Left: 8})} {
			o := s.Round(engine, raw, loud(400, 2406), []int{1, 2})
			if !sameOutcome(o, api.Outcome{State: held(3), Err: api.ErrArg}) || !sameState(s.State(), held(3)) {
				t.Errorf("engine %d, %d bytes: %s", engine, len(raw), told(o))
			}
		}
	}
	if o := s.Round(server.ByMix, good, loud(400, 2406), nil); o.Err != api.OK || o.Report.Replays != 0 {
		t.Errorf("then by one that there is: %s", told(o))
	}
}

// P24.1: the engines' numbers.
func TestNumbersOfEngines(t *testing.T) {
	if server.ByMix != 0 || server.ByCrew != 1 || server.ByLine != 2 {
		t.Errorf("%d, %d, %d", server.ByMix, server.ByCrew, server.ByLine)
	}
}

// P24.1: the last round of all, behind which none comes any more.
func TestLastRound(t *testing.T) {
	const top = 1 << 62
	for _, engine := range engines {
		p := newPair(t, config(), api.State{Next: top - 1, Window: api.Window{Newest: 9}})
		if o := p.round(engine, packed(header(top-1, 9), cells[0]), loud(300, 2407)); o.Err != api.OK || o.State.Next != top {
			t.Errorf("engine %d: %s", engine, told(o))
		}
		if o := p.round(engine, packed(header(top-1, 9), cells[1]), loud(300, 2407)); o.Err != api.ErrRound || o.State.Next != top {
			t.Errorf("engine %d, behind it: %s", engine, told(o))
		}
		checkLoad(t, "behind the last round", config(), p.s.State(), api.OK)
	}
}

// P24.1: a nil server: whatever it is asked, it answers ErrConfig and nothing, or does nothing.
func TestNilServer(t *testing.T) {
	var none *server.Server
	nothing := api.Outcome{Err: api.ErrConfig}
	raw, tape := packed(header(5, 9), cells[:2]...), loud(300, 2408)
	for range 2 {
		if s := none.State(); !sameState(s, api.State{}) {
			t.Errorf("State: %s", stateTold(s))
		}
		for _, engine := range append(engines, noEngines...) {
			if o := none.Round(engine, raw, tape, []int{1}); !sameOutcome(o, nothing) {
				t.Errorf("Round by %d: %s", engine, told(o))
			}
			if o := none.Round(engine, nil, nil, nil); !sameOutcome(o, nothing) {
				t.Errorf("Round by %d of nothing: %s", engine, told(o))
			}
		}
		if o := none.Finish(tape); !sameOutcome(o, nothing) {
			t.Errorf("Finish: %s", told(o))
		}
		none.Put(raw)
		none.Put(nil)
		if o := none.Finish(tape); !sameOutcome(o, nothing) {
			t.Errorf("Finish behind Put: %s", told(o))
		}
	}
}

// Rule 1: a server that neither New nor Load made: no panic, and no round goes through.
func TestServerThatNobodyMade(t *testing.T) {
	var s server.Server
	s.Put(packed(header(5, 9)))
	for _, o := range []api.Outcome{s.Round(server.ByMix, packed(header(5, 9)), make([]byte, 18), nil), s.Round(7, nil, nil, nil), s.Finish(nil), s.Finish(make([]byte, 18))} {
		if o.Err == api.OK || len(o.Out) > 0 || !sameState(o.State, api.State{}) {
			t.Errorf("%s", told(o))
		}
	}
}

// P24.1: the errors of the bytes come with their place, by each engine and through Finish.
func TestPlaces(t *testing.T) {
	raw := packed(header(5, 9), cells[:2]...)
	for n := 0; n < len(raw); n += 17 {
		for _, wrong := range [][]byte{raw[:n], turned(raw, n, 128), append(slices.Clone(raw), raw[:n+1]...)} {
			p := newPair(t, config(), held(1))
			_, at, e := frame.Read(wrong)
			for _, engine := range engines {
				if o := p.round(engine, wrong, loud(300, 2409)); o.Err != e || o.At != at || e == api.OK {
					t.Errorf("engine %d: %s; want %d at %d", engine, told(o), e, at)
				}
			}
			p.put(wrong)
			if o := p.finish(loud(300, 2409)); o.Err != e || o.At != at {
				t.Errorf("Finish: %s; want %d at %d", told(o), e, at)
			}
		}
	}
}

func ExampleServer() {
	s, e := server.New(last())
	fmt.Println(e)
	o := s.Round(server.ByLine, packed(api.Header{Left: 1}, sent(1, 0, 1), sent(1, 0, 2)), some(60, 1), []int{5, -3, 1})
	fmt.Println(o.Err, o.Report.Out, s.State().Next)
	raw := packed(api.Header{Round: 1, Left: 1}, sent(1, 0, 2), sent(1, 0, 3))
	s.Put(raw[:100])
	s.Put(raw[100:])
	o = s.Finish(some(60, 2))
	fmt.Println(o.Err, o.Report.Replays, o.Report.Out, s.State().Next)
	// Output:
	// churn: error 0
	// churn: error 0 2 1
	// churn: error 0 1 1 2
}
