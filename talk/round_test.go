package talk_test

import (
	"fmt"
	"slices"
	"testing"

	"churn/api"
	"churn/cascade"
	"churn/drop"
	"churn/frame"
	"churn/talk"
)

// calm: configurations without noise.
func calm(hops int) []api.Config {
	cs := configs(hops)
	for i := range cs {
		cs[i].Noise = 0
	}
	return cs
}

// flat: so many tapes of so many noughts.
func flat(n, length int) [][]byte { return slices.Repeat([][]byte{make([]byte, length)}, n) }

// P30.1: the chapter's examples, by each engine.
func TestExamples(t *testing.T) {
	a, b, c := client{1, "room0001", "hi"}, client{2, "room0001", "ho"}, client{3, "room0002", "x"}
	for _, engine := range engines {
		back := newPair(t, calm(2)).through(engine, entry(6, 4, 2, cells(2, 4, a, b, c)...), flat(2, 200))
		a.hears(t, 2, 4, back[0], drop.Met, "ho")
		b.hears(t, 2, 4, back[1], drop.Met, "hi")
		c.hears(t, 2, 4, back[2], drop.Alone, "")

		batch := append(cells(2, 4, a, b, c), noughts, a.cell(2, 4))
		back = newPair(t, calm(2)).through(engine, entry(6, 4, 2, batch...), flat(2, 200))
		a.hears(t, 2, 4, back[0], 1, "ho")
		b.hears(t, 2, 4, back[1], 1, "hi")
		c.hears(t, 2, 4, back[2], 0, "")
		blank(t, "of noughts", back[3])
		blank(t, "of a once more", back[4])

		c.name = "room0001"
		back = newPair(t, calm(2)).through(engine, entry(6, 4, 2, cells(2, 4, a, b, c)...), flat(2, 200))
		for i, x := range []client{a, b, c} {
			x.hears(t, 2, 4, back[i], drop.Crowded, "")
		}
		c.name = "room0002"
	}
}

// P30.1: a round through each number of servers, by each engine, with noise at each server; those that are alone, two and three at a drop.
func TestRound(t *testing.T) {
	all := []client{{1, "room0001", "hi"}, {2, "room0002", "a"}, {3, "room0003", "1"}, {4, "room0001", "ho"}, {5, "room0003", "2"}, {6, "room0003", "3"}}
	for _, hops := range paths() {
		for _, engine := range engines {
			p := newPair(t, configs(hops))
			back := p.through(engine, entry(8, 5, hops, cells(hops, 5, all...)...), loud(hops, 200, int64(hops)), 5, -3, 1)
			for i, want := range []heard{{1, "ho", 0}, {}, {How: 2}, {1, "hi", 0}, {How: 2}, {How: 2}} {
				all[i].hears(t, hops, 5, back[i], want.How, want.Message)
			}
		}
	}
}

// P30.1: a batch without cells, through each number of servers, with noise and without.
func TestNoCells(t *testing.T) {
	for _, hops := range paths() {
		for _, engine := range engines {
			for _, tapes := range [][][]byte{flat(hops, 18), loud(hops, 100, 3100), quiet(hops, 100, 3101)} {
				p := newPair(t, configs(hops))
				if back := p.through(engine, entry(8, 5, hops), tapes); len(back) != 0 {
					t.Errorf("%d hops by %d: %d cells come back", hops, engine, len(back))
				}
			}
		}
	}
}

// P30.1: a batch of one cell of each kind.
func TestOneCell(t *testing.T) {
	for _, hops := range paths() {
		for _, engine := range engines {
			one := func(c []byte) []byte {
				return newPair(t, configs(hops)).through(engine, entry(8, 5, hops, c), loud(hops, 100, 3102))[0]
			}
			a := client{1, "room0001", "hi"}
			a.hears(t, hops, 5, one(a.cell(hops, 5)), drop.Alone, "")
			a.hears(t, hops, 5, one(there(hops, hops, 5, nonces(hops, 1), []byte("short"))), drop.Broken, "")
			blank(t, "a cell of noughts", one(noughts))
			blank(t, "a cell of anything", one(some(320, 3103)))
			blank(t, "of another epoch", one(a.cell(hops, 6)))
			blank(t, "with a bit turned", one(turned(a.cell(hops, 5), 33, 1)))
			for layers := range hops {
				blank(t, fmt.Sprintf("%d layers of %d, noughts in them", layers, hops), one(there(hops, layers, 5, nonces(hops, 1), nil)))
				blank(t, fmt.Sprintf("%d layers of %d, anything in them", layers, hops), one(there(hops, layers, 5, nonces(hops, 1), some(48, 3104))))
			}
		}
	}
}

// P30.1: the fullest batch: 128 pairs, each heard at its own place; and one cell more of noise, which the first server refuses.
func TestFullestBatch(t *testing.T) {
	var all []client
	for k := range 256 {
		all = append(all, client{k, fmt.Sprintf("room%04d", k%128), fmt.Sprint("from ", k)})
	}
	raw := entry(8, 5, 2, cells(2, 5, all...)...)
	p := newPair(t, configs(2))
	p.refused(0, raw, loud(2, 3000, 3105), 0, api.ErrCrowd)
	for i, x := range p.through(1, raw, quiet(2, 3000, 3105)) {
		all[i].hears(t, 2, 5, x, drop.Met, fmt.Sprint("from ", (i+128)%256))
	}
}

// P30.1: payloads that are no request are told so, and lie at no drop.
func TestBroken(t *testing.T) {
	a, b := client{1, "room0001", "hi"}, client{2, "room0001", "ho"}
	for _, hops := range paths() {
		batch := cells(hops, 5, a, b)
		var others []client
		for length := range 8 { // fewer bytes than a name has
			others = append(others, client{k: 10 + length, name: "room0001"[:length]})
			batch = append(batch, must(cascade.Submit(masters(hops), 5, nonces(hops, 10+length), []byte("room0001")[:length])))
		}
		back := newPair(t, configs(hops)).through(hops%3, entry(8, 5, hops, batch...), loud(hops, 300, 3106))
		a.hears(t, hops, 5, back[0], drop.Met, "ho")
		b.hears(t, hops, 5, back[1], drop.Met, "hi")
		for i, o := range others {
			o.hears(t, hops, 5, back[2+i], drop.Broken, "")
		}
	}
}

// P30.1: an engine that there isn't: one outcome, ErrArg, no bytes, and no server is further.
func TestNoSuchEngine(t *testing.T) {
	p := newPair(t, configs(2))
	a := client{1, "room0001", "hi"}
	raw, tapes := entry(8, 5, 2, a.cell(2, 5)), loud(2, 200, 3107)
	for _, engine := range noEngines {
		for _, batch := range [][]byte{raw, nil} {
			list := p.refused(engine, batch, tapes, 0, api.ErrArg)
			if !sameOutcomes(list, []api.Outcome{{Err: api.ErrArg}}) {
				t.Errorf("engine %d:%s", engine, told(list))
			}
		}
	}
	a.hears(t, 2, 5, p.through(0, raw, tapes)[0], drop.Alone, "")
}

// P30.1: bytes that the first server refuses, with their place; the talk then goes on as if they had not come.
func TestRefusedBytes(t *testing.T) {
	a := client{1, "room0001", "hi"}
	raw, tapes := entry(8, 5, 2, a.cell(2, 5), noughts), loud(2, 200, 3108)
	for _, x := range []struct {
		raw  []byte
		want api.Errno
		at   int
	}{
		{nil, api.ErrShort, 0}, {raw[:100], api.ErrShort, 100}, {turned(raw, 0, 1), api.ErrMagic, 0}, {turned(raw, 4, 1), api.ErrVersion, 4}, {turned(raw, 5, 64), api.ErrHeader, 5},
		{turned(raw, 6, 2), api.ErrCount, 6}, {turned(raw, 24, 7), api.ErrCell, 24}, {turned(raw, 99, 1), api.ErrFoot, len(raw) - 4}, {append(slices.Clone(raw), 1), api.ErrMore, len(raw)},
		{entry(8, 5, 1), api.ErrHop, 0}, {entry(8, 5, 3), api.ErrHop, 0}, {entry(8, 5, 0), api.ErrHop, 0}, {entry(8, 1025, 2), api.ErrEpoch, 0},
	} {
		for _, engine := range engines {
			p := newPair(t, configs(2))
			if list := p.refused(engine, x.raw, tapes, 0, x.want); !sameOutcomes(list, []api.Outcome{{Err: x.want, At: x.at}}) {
				t.Errorf("engine %d:%s\nwant %d at %d", engine, told(list), x.want, x.at)
			}
			a.hears(t, 2, 5, p.through(engine, raw, tapes)[0], drop.Alone, "")
		}
	}
}

// P30.1: too few tapes: one that is not there is empty, and the round is refused at its server; those behind the servers' count for nothing.
func TestNumberOfTapes(t *testing.T) {
	a := client{1, "room0001", "hi"}
	for _, hops := range paths() {
		raw, tapes := entry(8, 5, hops, a.cell(hops, 5)), loud(hops+4, 200, 3109)
		_, want := newPair(t, configs(hops)).round(0, raw, tapes)
		for n := range hops + 5 {
			p := newPair(t, configs(hops))
			if n < hops {
				p.refused(n%3, raw, tapes[:n], n, api.ErrTape)
				continue
			}
			if _, comes := p.round(n%3, raw, tapes[:n]); len(comes) == 0 || !slices.Equal(comes, want) {
				t.Errorf("%d hops, %d tapes: back come %s; want %s", hops, n, inShort(comes), inShort(want))
			}
		}
		for _, none := range [][][]byte{nil, {}, {nil}, {{}}} {
			newPair(t, configs(hops)).refused(0, raw, none, 0, api.ErrTape)
		}
	}
}

// P30.1: each server's own tape tells what it puts out and where, but not what comes back: that is the same for every tape.
func TestTapesShowInNoAnswer(t *testing.T) {
	all := []client{{1, "room0001", "hi"}, {2, "room0001", "ho"}, {3, "room0002", "x"}}
	batch := append(cells(3, 5, all...), noughts, all[2].cell(3, 5))
	raw := entry(8, 5, 3, batch...)
	_, want := newPair(t, configs(3)).round(0, raw, loud(3, 300, 3110))
	for seed := range int64(10) {
		for n, tapes := range [][][]byte{loud(3, 300, 3111+seed), quiet(3, 300, 3131+seed), {some(300, seed), some(99, seed), some(1000, seed)}} {
			if _, comes := newPair(t, configs(3)).round(int(seed)%3, raw, tapes); len(comes) == 0 || !slices.Equal(comes, want) {
				t.Errorf("tapes %d %d: back come %s; want %s", seed, n, inShort(comes), inShort(want))
			}
		}
	}
}

// P30.1: a round refused at the first, a middle or the last server, for want of a tape: no bytes come back, those ahead of it are one round further, and so know the cells; then a round that goes through.
func TestRefusedAndPlayedOn(t *testing.T) {
	for _, hops := range paths() {
		tapes := loud(hops, 200, 3112)
		a, b := client{1, "room0001", "hi"}, client{2, "room0001", "ho"}
		for at := range hops {
			for _, engine := range engines {
				p := newPair(t, configs(hops))
				short := with(tapes, at, tapes[at][:17])
				list := p.refused(engine, entry(8, 5, hops, cells(hops, 5, a, b)...), short, at, api.ErrTape)
				for i, o := range list {
					if i < at && o.State.Next != 9 || i == at && o.State.Next != 0 {
						t.Errorf("%d hops, refused at %d:%s", hops, at, told(list))
					}
				}
				p.playsOn(engine, at, a, b, tapes)
			}
		}
	}
}

// playsOn: behind the round 8, which server number at refused, with the cells of these two.
func (p *pair) playsOn(engine, at int, a, b client, tapes [][]byte) {
	p.t.Helper()
	hops := len(p.m.cs)
	again := cells(hops, 5, a, b)
	if at > 0 { // the first server played round 8: it plays none again, and knows these cells
		p.refused(engine, entry(8, 5, hops, again...), tapes, 0, api.ErrRound)
		for _, x := range p.through(engine, entry(9, 5, hops, again...), tapes) {
			blank(p.t, "once more", x)
		}
	} else {
		back := p.through(engine, entry(8, 5, hops, again...), tapes)
		a.hears(p.t, hops, 5, back[0], drop.Met, b.message)
		b.hears(p.t, hops, 5, back[1], drop.Met, a.message)
	}
	a.k, b.k = a.k+10, b.k+10
	back := p.through(engine, entry(10, 5, hops, cells(hops, 5, a, b)...), tapes)
	a.hears(p.t, hops, 5, back[0], drop.Met, b.message)
	b.hears(p.t, hops, 5, back[1], drop.Met, a.message)
}

// P30.1: the ways in which a server in the midst refuses: ErrFull by its room, ErrCrowd by its noise; those behind it don't hear of the round.
func TestRefusedInTheMidst(t *testing.T) {
	a, b := client{1, "room0001", "hi"}, client{2, "room0001", "ho"}
	for _, hops := range paths() {
		for at := range hops {
			p := newPair(t, changed(hops, at, func(c *api.Config) { c.Room = 1 }))
			p.refused(at%3, entry(8, 5, hops, cells(hops, 5, a, b)...), loud(hops, 200, 3113), at, api.ErrFull)
			one := client{3, "room0003", ""}
			one.hears(t, hops, 5, p.through(at%3, entry(9, 5, hops, one.cell(hops, 5)), loud(hops, 200, 3114))[0], drop.Alone, "")
		}
	}
	var all []client
	for k := range 255 {
		all = append(all, client{k, fmt.Sprintf("room%04d", k), ""})
	}
	for at := range 2 {
		tapes := quiet(2, 3000, 3115)
		tapes[at][0], tapes[at][1] = 255, 255
		newPair(t, configs(2)).refused(1, entry(8, 5, 2, cells(2, 5, all...)...), tapes, at, api.ErrCrowd)
	}
}

// P30.1: several rounds of one talk: the same pair meets again and again with new nonces, at other places, in newer epochs, with other messages; cells of earlier rounds come to nothing as long as their epoch is kept.
func TestSeveralRounds(t *testing.T) {
	for _, hops := range paths() {
		p := newPair(t, configs(hops))
		var earlier [][]byte
		for n := range 6 {
			epoch := int64(5 + n/3)
			a, b := client{10 * n, "room0001", fmt.Sprint("hi ", n)}, client{10*n + 1, "room0001", fmt.Sprint("ho ", n)}
			batch := append(slices.Clone(earlier), cells(hops, epoch, b, a)...)
			back := p.through(n%3, entry(int64(2*n), epoch, hops, batch...), loud(hops, 400, int64(n)), n, -n)
			for i := range earlier {
				blank(t, "a cell of an earlier round", back[i])
			}
			b.hears(t, hops, epoch, back[len(earlier)], drop.Met, a.message)
			a.hears(t, hops, epoch, back[len(earlier)+1], drop.Met, b.message)
			earlier = batch
		}
	}
}

// P30.1: cells laid anew in a later round: of an epoch that is kept, they come to nothing; of one that isn't any more, the whole round is refused.
func TestLaidAnew(t *testing.T) {
	a, b := client{1, "room0001", "hi"}, client{2, "room0001", "ho"}
	for _, engine := range engines {
		p := newPair(t, configs(3)) // each window keeps two epochs
		tapes := loud(3, 200, 3116)
		a.hears(t, 3, 5, p.through(engine, entry(1, 5, 3, a.cell(3, 5)), tapes)[0], drop.Alone, "")
		back := p.through(engine, entry(2, 5, 3, cells(3, 5, b, a)...), tapes)
		b.hears(t, 3, 5, back[0], drop.Alone, "")
		blank(t, "a once more", back[1])
		p.through(engine, entry(3, 6, 3), tapes)
		for _, x := range p.through(engine, entry(4, 5, 3, cells(3, 5, b, a)...), tapes) {
			blank(t, "in the epoch ahead of the newest", x)
		}
		p.through(engine, entry(5, 7, 3), tapes)
		p.refused(engine, entry(6, 5, 3, cells(3, 5, b, a)...), tapes, 0, api.ErrEpoch)
		back = p.through(engine, entry(6, 7, 3, cells(3, 7, b, a)...), tapes)
		b.hears(t, 3, 7, back[0], drop.Met, "hi")
		a.hears(t, 3, 7, back[1], drop.Met, "ho")
	}
}

// P30.1: rounds and epochs at their limits.
func TestLimits(t *testing.T) {
	a, b := client{1, "room0001", "hi"}, client{2, "room0001", "ho"}
	p := newPair(t, configs(2))
	tapes := loud(2, 200, 3117)
	back := p.through(2, entry(0, 0, 2, cells(2, 0, a, b)...), tapes)
	a.hears(t, 2, 0, back[0], drop.Met, "ho")
	back = p.through(1, entry(top-1, 1024, 2, cells(2, 1024, a, b)...), tapes)
	b.hears(t, 2, 1024, back[1], drop.Met, "hi")
	p.refused(0, entry(top-1, 1024, 2), tapes, 0, api.ErrRound)
}

// P30.1: a nil talk, and one that New hasn't made: no outcomes, no bytes.
func TestNilTalk(t *testing.T) {
	raw := entry(8, 5, 1, client{1, "room0001", "hi"}.cell(1, 5))
	for _, r := range []*talk.Talk{nil, {}} {
		for engine := range 4 {
			for _, bytes := range [][]byte{nil, raw} {
				if list, comes := r.Round(engine, bytes, loud(1, 200, 3118), []int{1}); len(list) != 0 || len(comes) != 0 {
					t.Errorf("%d outcomes, %d bytes", len(list), len(comes))
				}
			}
		}
	}
}

// P30.1: what comes back is read by frame.Read whole, whatever it holds; behind a refused round it is no batch.
func TestWhatComesBackIsABatch(t *testing.T) {
	p := newPair(t, configs(2))
	_, comes := p.round(1, entry(8, 5, 2, noughts), loud(2, 200, 3119))
	if b, at, e := frame.Read(comes); e != api.OK || at != 0 || b.Header != (api.Header{Round: 8, Epoch: 5, Left: 2}) || len(b.Cells) != 1 {
		t.Errorf("%s, error %d at %d", inShort(comes), e, at)
	}
	if _, comes = p.round(1, entry(8, 5, 2, noughts), loud(2, 200, 3119)); comes != nil {
		t.Errorf("behind a refused round: %s", inShort(comes))
	}
}
