package talk_test

import (
	"bytes"
	"fmt"
	"math/rand"
	"slices"
	"testing"

	"churn/api"
	"churn/cascade"
	"churn/cell"
	"churn/drop"
	"churn/server"
	"churn/talk"
)

// A lot draws batches, tapes and scripts, most often such as are taken.
type lot struct{ *rand.Rand }

func newLot(seed int64) lot { return lot{rand.New(rand.NewSource(seed))} }

// script: of any numbers, or none.
func (l lot) script() (list []int) {
	for range l.Intn(3) * l.Intn(60) {
		list = append(list, int(l.Uint64())>>l.Intn(64))
	}
	return list
}

// tapes: most often one for each server, all long enough; else too few, too many, or a short one among them.
func (l lot) tapes(hops int) (list [][]byte) {
	n := hops
	switch l.Intn(12) {
	case 0:
		n = l.Intn(hops)
	case 1:
		n += 1 + l.Intn(3)
	}
	for range n {
		length := 150 + l.Intn(300)
		if l.Intn(30) == 0 {
			length = l.Intn(40)
		}
		list = append(list, some(length, l.Int63()))
	}
	return list
}

// varied: configurations of so many hops, each with numbers of its own.
func (l lot) varied(hops int) []api.Config {
	cs := configs(hops)
	for i := range cs {
		c := &cs[i]
		c.Span, c.Room, c.Num, c.Den, c.Noise, c.Chunks = 1+l.Intn(3), 25+l.Intn(60), 1+l.Intn(3), 3, l.Intn(5), 1+l.Intn(5)
		c.Workers, c.Cap, c.Shards = 1+l.Intn(6), l.Intn(3), 1+l.Intn(6)
	}
	return cs
}

// client: one of some, at one of a few drops.
func (l lot) client() client {
	message := some(l.Intn(41), l.Int63())
	return client{l.Intn(200), names[l.Intn(4)], string(message)}
}

// cells: of clients that are new and such as were there before; some twice, some with a bit turned, some malformed at one of the servers, some that are another one's from one of the servers on, some that hold no request.
func (l lot) cells(hops int, epoch int64) (list [][]byte) {
	for range l.Intn(9) {
		a := l.client()
		hop, c := l.Intn(hops), a.cell(hops, epoch)
		switch l.Intn(9) {
		case 0:
			list = append(list, turned(c, l.Intn(320), 1))
		case 1:
			list = append(list, c, c)
		case 2:
			list = append(list, there(hops, hop, epoch, nonces(hops, 300+a.k), some(50, l.Int63())))
		case 3:
			list = append(list, there(hops, hop, epoch, nonces(hops, 600+a.k), l.inside(hops, hop, epoch, a)))
		case 4:
			list = append(list, there(hops, hops, epoch, nonces(hops, 900+a.k), []byte(a.name[:l.Intn(8)])))
		default:
			list = append(list, c)
		}
	}
	return list
}

// inside: what is left of a client's cell when the first so many hops have peeled it.
func (l lot) inside(hops, layers int, epoch int64, a client) []byte {
	inner := []byte(a.name + a.message)
	for i := hops - 1; i >= layers; i-- {
		inner = layer(hopKey(master(i), epoch), nonces(hops, a.k)[i], hops-i, inner)
	}
	return inner
}

// header: one that the first server most often takes.
func (l lot) header(hops int, s api.State) api.Header {
	h := api.Header{Round: s.Next + int64(l.Intn(3)), Epoch: s.Window.Newest + int64(l.Intn(5)/4), Left: hops}
	switch l.Intn(20) {
	case 0:
		h.Round = max(0, s.Next-1)
	case 1:
		h.Epoch = max(0, h.Epoch-int64(l.Intn(4)))
	case 2:
		h.Left = l.Intn(9)
	}
	return h
}

// batch: its bytes, now and then such as are none.
func (l lot) batch(hops int, s api.State) []byte {
	h := l.header(hops, s)
	raw := packed(h, l.cells(hops, h.Epoch)...)
	switch l.Intn(30) {
	case 0:
		return raw[:l.Intn(len(raw))]
	case 1:
		return turned(raw, l.Intn(len(raw)), 1<<l.Intn(8))
	case 2:
		return append(raw, some(1+l.Intn(9), l.Int63())...)
	}
	return raw
}

// P30.1: lists of rounds of all kinds through talks of all kinds, by engines that there are and that there aren't, each answer held against the chapter's words.
func TestListsOfCalls(t *testing.T) {
	counts := map[api.Errno]int{}
	refusedAt, came := map[int]int{}, map[bool]int{}
	for seed := range int64(fewer(50)) {
		l := newLot(3200 + seed)
		hops := 1 + l.Intn(4)
		p := newPair(t, l.varied(hops))
		for range 30 {
			engine := l.Intn(3)
			if l.Intn(20) == 0 {
				engine = noEngines[l.Intn(len(noEngines))]
			}
			list, comes := p.round(engine, l.batch(hops, p.m.states[0]), l.tapes(hops), l.script()...)
			end := list[len(list)-1]
			counts[end.Err]++
			if end.Err != api.OK {
				refusedAt[len(list)-1]++
				continue
			}
			for _, x := range read(comes).Cells {
				came[!bytes.Equal(x, noughts)]++
			}
		}
	}
	if testing.Short() {
		return
	}
	for _, e := range []api.Errno{api.OK, api.ErrArg, api.ErrTape, api.ErrFull, api.ErrRound, api.ErrEpoch, api.ErrHop} {
		if counts[e] < 10 {
			t.Errorf("the rounds are too much alike: %v", counts)
			break
		}
	}
	if refusedAt[0] < 50 || refusedAt[1] < 15 || refusedAt[2] < 8 || refusedAt[3] < 4 || came[true] < 500 || came[false] < 500 {
		t.Errorf("refused at each server: %v; what came back: %v", refusedAt, came)
	}
}

// A spoilt is a way in which a cell doesn't come through, with the server that drops it.
type spoilt struct {
	what string
	at   int
	cell []byte
}

// spoilts: such cells for each server, all malformed there.
func spoilts(hops int) (all []spoilt) {
	l := newLot(0)
	for at := range hops {
		in := func(k int, inner []byte) []byte { return there(hops, at, 5, nonces(hops, k), inner) }
		own := client{70, "room0001", "spoilt"}
		all = append(all,
			spoilt{"noughts", at, in(50, nil)},
			spoilt{"anything", at, in(51, some(80, int64(at)))},
			spoilt{"a bit turned", at, in(52, turned(l.inside(hops, at, 5, own), 20, 1))},
			spoilt{"another epoch's", at, in(53, l.inside(hops, at, 4, own))},
		)
	}
	return all
}

// P30.2: at the place of a cell that is malformed, at whichever server, come noughts; all others are heard as if it had not been there.
func TestMalformedAtEachServer(t *testing.T) {
	a, b := client{1, "room0001", "hi"}, client{2, "room0001", "ho"}
	for _, hops := range paths() {
		for n, x := range spoilts(hops) {
			place := n % 3
			p := newPair(t, configs(hops))
			list, comes := p.round(n%3, entry(8, 5, hops, slices.Insert(cells(hops, 5, a, b), place, x.cell)...), loud(hops, 200, int64(n)))
			what := fmt.Sprintf("%d hops, %s at server %d", hops, x.what, x.at)
			for i, o := range list {
				want := 2 * min(i, 1) // the noise of the server ahead
				if i == x.at {
					want++
				}
				if o.Err != api.OK || o.Report.Malformed != want || o.Report.Replays != 0 {
					t.Errorf("%s:%s", what, told(list))
				}
			}
			back := read(comes).Cells
			if len(back) != 3 {
				t.Fatalf("%s: %s", what, inShort(comes))
			}
			blank(t, what, back[place])
			back = slices.Delete(back, place, place+1)
			a.hears(t, hops, 5, back[0], drop.Met, "ho")
			b.hears(t, hops, 5, back[1], drop.Met, "hi")
		}
	}
}

// P30.2: of two cells that are alike from one server on, at whichever, one is a replay there: noughts come at its place, and the answer at the other one's, in the nonces of that one's own way.
func TestReplayAtEachServer(t *testing.T) {
	a, b := client{1, "room0001", "hi"}, client{2, "room0001", "ho"}
	l, firsts := newLot(0), map[bool]int{}
	for _, hops := range paths() {
		for at := range hops {
			own := slices.Concat(nonces(hops, 50)[:at], nonces(hops, a.k)[at:])
			twin := there(hops, at, 5, own, l.inside(hops, at, 5, a))
			p := newPair(t, configs(hops))
			list, comes := p.round(at%3, entry(8, 5, hops, append(cells(hops, 5, b, a), twin)...), loud(hops, 200, int64(at)))
			for i, o := range list {
				if o.Err != api.OK || (o.Report.Replays == 1) != (i == at) {
					t.Errorf("%d hops, alike from server %d on:%s", hops, at, told(list))
				}
			}
			back := read(comes).Cells
			b.hears(t, hops, 5, back[0], drop.Met, "hi")
			first := bytes.Equal(back[2], noughts)
			firsts[first]++
			if first {
				a.hears(t, hops, 5, back[1], drop.Met, "ho")
			} else {
				blank(t, "the first of two", back[1])
				checkHear(t, "the second of two", masters(hops), 5, own, back[2], heard{1, "ho", 0})
			}
		}
	}
	if firsts[true] == 0 || firsts[false] == 0 {
		t.Errorf("which of the two came through: %v", firsts)
	}
}

// P30.2: as many cells come back as came in, in a batch of the same Round, Epoch and Left, whatever they are; noughts at just those places whose cells did not come through.
func TestAsManyBack(t *testing.T) {
	for seed := range int64(fewer(60)) {
		l := newLot(3300 + seed)
		hops := 1 + l.Intn(8)
		p := newPair(t, configs(hops))
		h := api.Header{Round: l.Int63n(1 << 62), Epoch: l.Int63n(1025), Left: hops}
		batch := l.cells(hops, h.Epoch)
		raw := packed(h, batch...)
		list, comes := p.round(int(seed)%3, raw, loud(hops, 300, seed))
		b := read(comes)
		if b.Header != h || len(b.Cells) != len(batch) {
			t.Errorf("there went %+v with %d cells, back come %s", h, len(batch), inShort(comes))
		}
		answers := 0
		for _, x := range b.Cells {
			if !bytes.Equal(x, noughts) {
				answers++
			}
		}
		last := list[hops-1].Report
		if through := last.Out - last.Noise; answers != through {
			t.Errorf("%d cells came through, %d answers come back", through, answers)
		}
	}
}

// P30.2: at each place to which an answer comes stands a cell of its own, which only that one's nonces open.
func TestEachAtItsOwnPlace(t *testing.T) {
	var all []client
	for k := range 12 {
		all = append(all, client{k, fmt.Sprintf("room%04d", k%5), fmt.Sprint("from ", k)})
	}
	for _, hops := range paths() {
		back := newPair(t, configs(hops)).through(hops%3, entry(8, 5, hops, cells(hops, 5, all...)...), loud(hops, 300, 3201))
		for place, x := range back {
			for k := range all {
				if got := hear(masters(hops), 5, nonces(hops, k), x); (got.Err == api.OK) != (k == place) {
					t.Errorf("%d hops: client %d hears at place %d: %+v", hops, k, place, got)
				}
			}
		}
	}
}

// P30.3 and P7: two at one drop and nobody else hear one another, each in the cell at the place of its own, wherever the two stand among others of all kinds.
func TestTwoHearOneAnother(t *testing.T) {
	a, b := client{1, "room0001", "hi"}, client{2, "room0001", "ho"}
	for _, hops := range paths() {
		others := append(cells(hops, 5, client{3, "room0002", "x"}, client{4, "room0003", "y"}, client{5, "room0003", "z"}), noughts, some(320, 3202))
		for first := range len(others) + 1 {
			for second := range len(others) + 2 {
				if (first+second+hops)%3 > 0 && testing.Short() {
					continue
				}
				batch := slices.Insert(slices.Clone(others), first, a.cell(hops, 5))
				batch = slices.Insert(batch, second, b.cell(hops, 5))
				mine := first
				if second <= first {
					mine++
				}
				r := must(talk.New(configs(hops)))
				_, comes := r.Round((first+second)%3, entry(8, 5, hops, batch...), loud(hops, 300, int64(first)), []int{second})
				back := read(comes).Cells
				a.hears(t, hops, 5, back[mine], drop.Met, "ho")
				b.hears(t, hops, 5, back[second], drop.Met, "hi")
			}
		}
	}
}

// P30.3 and P7: messages of every length and of any bytes are heard as they are, at drops with names of any bytes; several pairs in one round.
func TestHeardAsItIs(t *testing.T) {
	for _, hops := range []int{1, 3, 8} {
		var all []client
		for length := range 41 {
			name := string(some(8, int64(length)))
			all = append(all, client{2 * length, name, string(some(length, int64(100+length)))}, client{2*length + 1, name, string(make([]byte, 40-length))})
		}
		for i, name := range names {
			all = append(all, client{200 + 2*i, name, messages()[i]}, client{201 + 2*i, name, messages()[i+1]})
		}
		cs := configs(hops)
		back := newPair(t, cs).through(1, entry(8, 5, hops, cells(hops, 5, all...)...), loud(hops, 1500, 3203))
		for i, c := range all {
			c.hears(t, hops, 5, back[i], drop.Met, all[i^1].message)
		}
	}
}

// P30.3 and P7: who is alone at its drop hears that it is, though names be nearly alike.
func TestAlone(t *testing.T) {
	for _, hops := range paths() {
		all := []client{{k: 0, name: "room0001", message: "2"}}
		for at := range 8 { // each byte of the name says which drop it is
			all = append(all, client{1 + at, string(turned([]byte("room0001"), at, 1)), "room0001"})
		}
		back := newPair(t, configs(hops)).through(hops%3, entry(8, 5, hops, cells(hops, 5, all...)...), loud(hops, 300, 3204))
		for i, c := range all {
			c.hears(t, hops, 5, back[i], drop.Alone, "")
		}
	}
}

// P30.3: three and more at one drop each hear that it is crowded, and nothing that lies there; at other drops nothing of it shows.
func TestCrowded(t *testing.T) {
	for crowd := 1; crowd <= 6; crowd++ {
		var all []client
		for k := range crowd {
			all = append(all, client{k, "room0001", fmt.Sprint(k)})
		}
		a, b := client{10, "room0002", "hi"}, client{11, "room0002", "ho"}
		back := newPair(t, configs(3)).through(crowd%3, entry(8, 5, 3, cells(3, 5, append(all, a, b)...)...), loud(3, 300, 3205))
		for k, c := range all {
			switch crowd {
			case 1:
				c.hears(t, 3, 5, back[k], drop.Alone, "")
			case 2:
				c.hears(t, 3, 5, back[k], drop.Met, fmt.Sprint(1-k))
			default:
				c.hears(t, 3, 5, back[k], drop.Crowded, "")
			}
		}
		a.hears(t, 3, 5, back[crowd], drop.Met, "ho")
		b.hears(t, 3, 5, back[crowd+1], drop.Met, "hi")
	}
}

// P30.3: two who lay the same are two: each hears it of the other one.
func TestTwoAlike(t *testing.T) {
	for _, hops := range paths() {
		a, b := client{1, "room0001", "hi"}, client{2, "room0001", "hi"}
		back := newPair(t, configs(hops)).through(hops%3, entry(8, 5, hops, cells(hops, 5, a, b)...), loud(hops, 200, 3206))
		a.hears(t, hops, 5, back[0], drop.Met, "hi")
		b.hears(t, hops, 5, back[1], drop.Met, "hi")
	}
}

// P7, where it leaves open: nonces of noughts. By the chapter's words their answers come back too.
func TestNoncesOfNoughts(t *testing.T) {
	for _, hops := range paths() {
		none := make([][16]byte, hops)
		a := ask(masters(hops), 5, none, "room0001", "hi")
		b := client{2, "room0001", "ho"}
		back := newPair(t, configs(hops)).through(hops%3, entry(8, 5, hops, []byte(a.Cell), b.cell(hops, 5)), loud(hops, 200, 3207))
		checkHear(t, fmt.Sprint(hops, " hops"), masters(hops), 5, none, back[0], heard{1, "ho", 0})
		b.hears(t, hops, 5, back[1], drop.Met, "hi")
	}
}

// P5, in a talk: a payload that came through lies just once in the last output, and adds nothing when it comes again.
func TestPayloadsComeThroughOnce(t *testing.T) {
	for _, hops := range paths() {
		a, b := client{1, "room0001", "hi"}, client{2, "room0001", "ho"}
		p := newPair(t, configs(hops))
		for n, want := range [][]string{{"room0001hi", "room0001ho"}, nil} {
			list, _ := p.round((n+hops)%3, entry(int64(n), 5, hops, cells(hops, 5, a, b, a)...), loud(hops, 200, int64(n)))
			var got []string
			for _, payload := range must(cascade.Payloads(list[hops-1].Out)) {
				got = append(got, string(payload))
			}
			slices.Sort(got)
			if !slices.Equal(got, want) {
				t.Errorf("%d hops, round %d: %q; want %q", hops, n, got, want)
			}
		}
	}
}

// A play is one way to have a talk play round number n.
type play func(n int, r *talk.Talk, raw []byte, tapes [][]byte) ([]api.Outcome, []byte)

// plays: by each engine, with scripts of each kind, and by the engines in turns.
func plays() map[string]play {
	l := newLot(3208)
	by := func(engine int, script func(n int) []int) play {
		return func(n int, r *talk.Talk, raw []byte, tapes [][]byte) ([]api.Outcome, []byte) {
			return r.Round(engine, raw, tapes, script(n))
		}
	}
	none := func(int) []int { return nil }
	return map[string]play{
		"mix":                by(server.ByMix, none),
		"mix with a script":  by(server.ByMix, func(n int) []int { return []int{n, -n, 1 << 62} }),
		"crew":               by(server.ByCrew, none),
		"crew with a script": by(server.ByCrew, func(int) []int { return l.Perm(50) }),
		"line":               by(server.ByLine, none),
		"line, the last":     by(server.ByLine, func(int) []int { return slices.Repeat([]int{-1}, 2000) }),
		"line, the greatest": by(server.ByLine, func(int) []int { return slices.Repeat([]int{1<<63 - 1, -1 << 63}, 1000) }),
		"line, any script":   by(server.ByLine, func(int) []int { return l.Perm(l.Intn(900)) }),
		"in turns": func(n int, r *talk.Talk, raw []byte, tapes [][]byte) ([]api.Outcome, []byte) {
			return r.Round(n%3, raw, tapes, []int{7, n})
		},
	}
}

// P30.4 and P2: as there, so back: the outcomes are those of a cascade of the same configurations over the same rounds, by any engine and any script, which show in nothing, not in what comes back either.
func TestAsThereSoBack(t *testing.T) {
	for seed := range int64(fewer(8)) {
		l := newLot(3400 + seed)
		hops := 1 + l.Intn(4)
		cs := l.varied(hops)
		m := newModel(cs)
		type played struct {
			raw    []byte
			tapes  [][]byte
			want   []api.Outcome
			wanted []byte
		}
		var row []played
		for range 12 {
			x := played{raw: l.batch(hops, m.states[0]), tapes: l.tapes(hops)}
			x.want, x.wanted = m.round(0, x.raw, x.tapes)
			row = append(row, x)
		}
		for what, play := range plays() {
			r, c := must(talk.New(cs)), must(cascade.New(cs))
			for n, x := range row {
				got, comes := play(n, r, x.raw, x.tapes)
				if there := c.Round(n%3, x.raw, x.tapes, nil); !sameOutcomes(got, there) || !sameOutcomes(got, x.want) {
					t.Fatalf("%s, round %d of row %d:%s\na cascade's:%s\nwant:%s", what, n, seed, told(got), told(there), told(x.want))
				}
				if !bytes.Equal(comes, x.wanted) {
					t.Fatalf("%s, round %d of row %d: back come %s; want %s", what, n, seed, inShort(comes), inShort(x.wanted))
				}
			}
		}
	}
}

// P30.4: nor do workers, capacities and shards show, whatever the engine.
func TestWorkersDoNotShow(t *testing.T) {
	batch := append(cells(2, 5, client{1, "room0001", "hi"}, client{2, "room0001", "ho"}, client{3, "room0002", "x"}), noughts)
	raw, tapes := entry(8, 5, 2, batch...), loud(2, 400, 3209)
	want, wanted := newPair(t, configs(2)).round(0, raw, tapes)
	for _, x := range [][3]int{{1, 0, 1}, {64, 0, 64}, {1, 1024, 5}, {64, 1024, 1}, {7, 2, 3}} {
		cs := configs(2)
		for i := range cs {
			cs[i].Workers, cs[i].Cap, cs[i].Shards = x[0], x[1], x[2]
		}
		for _, engine := range engines {
			got, comes := must(talk.New(cs)).Round(engine, raw, tapes, []int{3, 1, 4})
			if !sameOutcomes(got, want) || !bytes.Equal(comes, wanted) || len(comes) == 0 {
				t.Errorf("%v by %d:%s\nwant:%s", x, engine, told(got), told(want))
			}
		}
	}
}

// P30.1: at the drops the payloads alone are asked: the last server's noise is nobody's request.
func TestNoiseLiesAtNoDrop(t *testing.T) {
	a := client{1, "room0001", "hi"}
	for hops := 1; hops <= 4; hops++ {
		p := newPair(t, configs(hops))
		list, comes := p.round(hops%3, entry(8, 5, hops, a.cell(hops, 5)), loud(hops, 200, 3210))
		noise := 0
		for _, x := range read(list[hops-1].Out).Cells {
			if _, is, e := cell.Open(x); !is && e == api.OK {
				noise++
			}
		}
		if noise != 2 {
			t.Errorf("%d hops: %d noise cells in the last output", hops, noise)
		}
		a.hears(t, hops, 5, read(comes).Cells[0], drop.Alone, "")
	}
}
