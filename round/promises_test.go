package round_test

import (
	"bytes"
	"fmt"
	"math/rand"
	"slices"
	"testing"

	"churn/api"
	"churn/noise"
	"churn/perm"
	"churn/riffle"
	"churn/round"
	"churn/tape"
	"churn/window"
)

// sifted: the sifting of such a round.
func (g given) sifted() sifting {
	w := must(window.Open(g.s.Window, g.h.Epoch, g.c.Span))
	return sift(g.c, w, api.Batch{Header: g.h, Cells: g.cells})
}

// drawnOK: drawn rounds that aren't refused.
func drawnOK(seed int64, n int, each func(what string, r *rand.Rand, g given, o api.Outcome)) {
	rounds(seed, n, func(i int, r *rand.Rand, g given) {
		if o := g.mix(); o.Err == api.OK {
			each(fmt.Sprint("number ", i), r, g, o)
		}
	})
}

// P21.2 and P6: what goes out is a batch of the same Round and Epoch with one hop less; its cells have one length; the report adds up; the noise's number is that of its part; the new state fits.
func TestAllAlike(t *testing.T) {
	seen := 0
	drawnOK(2150, 400, func(what string, _ *rand.Rand, g given, o api.Outcome) {
		seen++
		out, fresh := read(o.Out), len(g.sifted().Fresh)
		if out.Header != header(g.h.Round, g.h.Epoch, g.c.Left-1) || len(out.Cells) != o.Report.Out {
			t.Errorf("%s: header %+v, %d cells, report %+v", what, out.Header, len(out.Cells), o.Report)
		}
		for _, x := range out.Cells {
			if len(x) != 320 {
				t.Errorf("%s: a cell of %d bytes", what, len(x))
			}
		}
		k := must(noise.Count(g.tape[:18], g.c.Num, g.c.Den, g.c.Noise))
		if r := o.Report; r.In != len(g.cells) || r.In != r.Malformed+r.Replays+fresh || r.Out != fresh+r.Noise || r.Noise != k {
			t.Errorf("%s: %+v with %d cells, %d fresh and %d of noise", what, r, len(g.cells), fresh, k)
		}
		if e := round.Check(g.c, o.State); e != api.OK {
			t.Errorf("%s: the new state doesn't fit: %s", what, told(o))
		}
	})
	if seen < 20 {
		t.Errorf("only %d rounds were OK", seen)
	}
}

// P21.2: at the ends: the last round and the greatest epoch of all.
func TestAllAlikeAtTheEnds(t *testing.T) {
	c := config(8)
	s := api.State{Next: top - 1, Window: win(top-1, epoch(top-2, 1), epoch(top-1, 2))}
	o := mixes(t, "the last round", c, s, packed(header(top-1, top, 8), sentAll(c, top, 1, 3)...), loud(200, 2151), api.OK)
	if read(o.Out).Header != header(top-1, top, 7) || o.State.Next != top || round.Check(c, o.State) != api.OK {
		t.Errorf("the last round: %+v, %s", read(o.Out).Header, told(o))
	}
	checkRefused(t, "behind it", o.State, round.Mix(c, o.State, packed(header(top-1, top, 8)), loud(200, 2151)), api.ErrRound, 0)
}

// P21.3: the cells that go out are the fresh ones and the noise behind them, in riffle.Order's order.
func TestOrderOfOut(t *testing.T) {
	drawnOK(2152, 400, func(what string, _ *rand.Rand, g given, o api.Outcome) {
		var cells [][]byte
		for _, p := range g.sifted().Fresh {
			cells = append(cells, p.Cell)
		}
		parts := must(tape.Split(g.tape, g.c.Chunks))
		cells = append(cells, must(noise.Cells(parts.Noise, o.Report.Noise, g.c.Left-1))...)
		order := must(riffle.Order(g.tape, len(cells), g.c.Chunks))
		out := read(o.Out).Cells
		for i, from := range order {
			if !bytes.Equal(out[i], cells[from]) {
				t.Errorf("%s: the cell at place %d isn't number %d", what, i, from)
			}
		}
	})
}

// places: at which place of Out each payload stands.
func places(o api.Outcome) (list []int) {
	all := payloads(o.Out)
	for n := range all {
		list = append(list, slices.Index(all, fmt.Sprint("cell ", n)))
	}
	return list
}

// P21.3: what is in the cells has no say in the order, nor has the epoch, the round, the master key or what was dropped.
func TestCellsHaveNoSay(t *testing.T) {
	for seed := range int64(20) {
		p := some(120, 2153+seed)
		var want []int
		for i := range 6 {
			c := quiet(1)
			c.Chunks = 3
			c.Master = some(32, int64(i))
			at := int64(i * 5)
			cells := sentAll(c, at, 0, 8)
			if i > 2 {
				cells = slices.Insert(cells, i, make([]byte, 320), cells[0], some(320, 4))
			}
			o := round.Mix(c, api.State{}, packed(header(at+2, at, 1), cells...), p)
			if o.Err != api.OK {
				t.Fatal(o.Err)
			}
			if got := places(o); want == nil {
				want = got
			} else if !slices.Equal(got, want) {
				t.Errorf("seed %d, number %d: the places are %v; want %v", seed, i, got, want)
			}
		}
	}
}

// P21.3: every order of four cells can come out: the tape turned to it gives it.
func TestEveryOrder(t *testing.T) {
	for _, chunks := range []int{1, 2, 3, 64} {
		c := quiet(1)
		c.Chunks = chunks
		raw := packed(header(0, 1, 1), sentAll(c, 1, 0, 3)...)
		p := some(700, 2154)
		for n := range 24 {
			want := must(perm.Unrank([]int{n / 6, n / 2 % 3, n % 2, 0}))
			o := mixes(t, "turned", c, api.State{}, raw, must(riffle.Turn(p, 4, chunks, want)), api.OK)
			var texts []string
			for _, from := range want {
				texts = append(texts, fmt.Sprint("cell ", from))
			}
			if got := payloads(o.Out); !slices.Equal(got, texts) {
				t.Errorf("%d chunks: %q; want %q", chunks, got, texts)
			}
		}
	}
}

// P6: the noise's number and its cells hang on the noise's part alone: neither the batch nor the rest of the tape shows in them.
func TestNoiseHangsOnItsPart(t *testing.T) {
	for left := 1; left <= 8; left += 7 {
		c := config(left)
		c.Noise, c.Num, c.Den = 16, 9, 10
		for seed := range int64(12) {
			part := some(18, 2155+seed)
			k := must(noise.Count(part, 9, 10, 16))
			cover := must(noise.Cells(part, k, left-1))
			for n := range 4 {
				p := append(slices.Clone(part), some(200+n, seed)...)
				o := mixes(t, "noise", c, api.State{}, packed(header(3, 1, left), sentAll(c, 1, 1, n)...), p, api.OK)
				if o.Report.Noise != k || o.Report.Out != n+k {
					t.Errorf("%d cells: %s; want %d of noise", n, told(o), k)
				}
				out := read(o.Out).Cells
				for _, x := range cover {
					if !slices.ContainsFunc(out, func(y []byte) bool { return bytes.Equal(x, y) }) {
						t.Errorf("%d cells: a noise cell isn't among those that go out", n)
					}
				}
			}
		}
	}
}

// P6: the order hangs on the number of cells, the chunks and the tape behind the noise's part: another key of the noise leaves each fresh cell at its place.
func TestNoiseKeyMovesNothing(t *testing.T) {
	c := config(1)
	raw := packed(header(3, 1, 1), sentAll(c, 1, 0, 5)...)
	p := loud(150, 2156)
	want := mixes(t, "as it is", c, api.State{}, raw, p, api.OK)
	for at := 2; at < 18; at++ {
		got := mixes(t, "turned", c, api.State{}, raw, turned(p, at, 255), api.OK)
		if !slices.Equal(places(got), places(want)) || bytes.Equal(got.Out, want.Out) {
			t.Errorf("byte %d of the noise's part turned: %q; before %q", at, payloads(got.Out), payloads(want.Out))
		}
	}
}

// freshOnes: which cells of such a round are fresh, by taking each prefix of the batch.
func (g given) freshOnes() (fresh []bool) {
	w := must(window.Open(g.s.Window, g.h.Epoch, g.c.Span))
	ahead := 0
	for i := range g.cells {
		n := len(sift(g.c, w, api.Batch{Header: g.h, Cells: g.cells[:i+1]}).Fresh)
		fresh = append(fresh, n > ahead)
		ahead = n
	}
	return fresh
}

// noTrace: whether two outcomes are the same but for the report.
func noTrace(a, b api.Outcome) bool {
	a.Report, b.Report = api.Report{}, api.Report{}
	return sameOutcome(a, b)
}

// P21.4: a batch from which any of the cells that are not fresh are taken out comes to the same, refused or not.
func TestTakenOut(t *testing.T) {
	dropped := 0
	rounds(2157, 300, func(i int, r *rand.Rand, g given) {
		want := g.mix()
		if want.Err == api.ErrConfig || want.Err == api.ErrEpoch {
			return // nothing was sifted
		}
		fresh := g.freshOnes()
		for _, share := range []int{1, 2, 3} {
			fewer := g
			fewer.cells = nil
			for j, x := range g.cells {
				if fresh[j] || r.Intn(share) != 0 {
					fewer.cells = append(fewer.cells, x)
				}
			}
			dropped += len(g.cells) - len(fewer.cells)
			if got := fewer.mix(); !noTrace(got, want) {
				t.Errorf("number %d with %d of %d cells: %s; want %s", i, len(fewer.cells), len(g.cells), told(got), told(want))
			}
		}
	})
	if dropped < 20 {
		t.Errorf("only %d cells were taken out", dropped)
	}
}

// P21.4: so does one with malformed cells put in, at each place and many at one time.
func TestMalformedPutIn(t *testing.T) {
	rounds(2158, 150, func(i int, r *rand.Rand, g given) {
		want := g.mix()
		bad := malformed(g.c, g.h.Epoch, 3)
		for j := range len(g.cells) + 1 {
			more := g
			more.cells = slices.Insert(slices.Clone(g.cells), j, bad[r.Intn(len(bad))].cell)
			if got := more.mix(); !noTrace(got, want) {
				t.Errorf("number %d, one put in at place %d: %s; want %s", i, j, told(got), told(want))
			}
		}
	})
}

// P21.4: malformed cells up to a batch's full number leave no trace either, whatever the error.
func TestFullOfMalformed(t *testing.T) {
	for _, x := range append(spoilings(), spoiling{"nothing", api.OK, func(*given) {}}) {
		g := sound()
		x.spoil(&g)
		want := g.mix()
		more := g
		more.cells = nil
		for i := range 256 {
			more.cells = append(more.cells, turned(manyCells[i], i, 1))
		}
		if len(g.cells) == 256 {
			continue
		}
		for i, y := range g.cells {
			more.cells[i*51+3] = y
		}
		got := more.mix()
		if want.Err == api.ErrMore {
			got.At = want.At // the place behind the last cell is another one
		}
		if !noTrace(got, want) || want.Err == api.OK && got.Report.Malformed != 251 {
			t.Errorf("%s: with malformed cells %s; without %s", x.what, told(got), told(want))
		}
	}
}

// shuffled: the cells in another order.
func shuffled(r *rand.Rand, cells [][]byte) [][]byte {
	cells = slices.Clone(cells)
	r.Shuffle(len(cells), func(i, j int) { cells[i], cells[j] = cells[j], cells[i] })
	return cells
}

// P21.5: behind a round that was OK the same cells, in any order and any number, have no fresh one among them.
func TestOnce(t *testing.T) {
	drawnOK(2159, 250, func(what string, r *rand.Rand, g given, o api.Outcome) {
		for _, further := range []int64{1, 2, 1000} {
			again := g
			again.s, again.h.Round = o.State, g.h.Round+further
			again.cells = shuffled(r, append(slices.Clone(g.cells), g.cells[:r.Intn(len(g.cells)+1)]...))
			got := checkMix(t, what, again.c, again.s, again.raw(), again.tape)
			if got.Err != api.OK && got.Err != api.ErrTape {
				t.Errorf("%s, once more: %s", what, told(got))
			}
			if len(again.sifted().Fresh) != 0 || got.Err == api.OK && (got.Report.Out != got.Report.Noise || got.Report.Malformed+got.Report.Replays != len(again.cells)) {
				t.Errorf("%s, once more: %s", what, told(got))
			}
			if got.Err == api.OK && !sameState(api.State{Next: o.State.Next, Window: got.State.Window}, o.State) {
				t.Errorf("%s, once more: the window has changed: %s; it was %s", what, told(got), told(o))
			}
		}
	})
}

// P21.5: in all orders of four cells.
func TestOnceInAllOrders(t *testing.T) {
	c := config(2)
	cells := sentAll(c, 4, 1, 4)
	p := some(120, 2160)
	first := mixes(t, "first", c, api.State{}, packed(header(0, 4, 2), cells...), p, api.OK)
	for n := range 24 {
		order := must(perm.Unrank([]int{n / 6, n / 2 % 3, n % 2, 0}))
		got := mixes(t, "again", c, first.State, packed(header(1, 4, 2), must(perm.Apply(order, cells))...), p, api.OK)
		if got.Report.Replays != 4 || got.Report.Out != got.Report.Noise {
			t.Errorf("the order %v: %s", order, told(got))
		}
	}
}

// P21.6: a refused round changes nothing: what it answers as the state, handed in with another tape, gives what the first state would have given at once.
func TestAsIfNeverSent(t *testing.T) {
	seen := map[api.Errno]int{}
	for _, x := range spoilings() {
		g := sound()
		x.spoil(&g)
		bad := g.mix()
		good := sound()
		want := good.mix()
		good.s = bad.State
		if x.what == "the state" {
			good.s.Window.Epochs = good.s.Window.Epochs[:1] // what was spoiled, put right again
		}
		if got := good.mix(); bad.Err != x.want || want.Err != api.OK || !sameOutcome(got, want) {
			t.Errorf("behind %s: %s; want %s", x.what, told(got), told(want))
		}
	}
	rounds(2161, 300, func(i int, r *rand.Rand, g given) {
		bad := g.mix()
		if bad.Err == api.OK {
			g.tape = g.tape[:17+r.Intn(2)]
			bad = g.mix()
		}
		seen[bad.Err]++
		other := g
		other.tape = some(800, int64(i))
		want := other.mix()
		other.s = bad.State
		if bad.Err != api.OK {
			if got := other.mix(); !sameOutcome(got, want) {
				t.Errorf("number %d: %s; want %s", i, told(got), told(want))
			}
		}
	})
	if !testing.Short() && (seen[api.ErrTape] < 20 || seen[api.ErrFull] < 5) {
		t.Errorf("the refused rounds are too much alike: %v", seen)
	}
}

// P21.1, P21.4 to P21.6: a server's way over many rounds, with a table of what it has seen beside it: each cell goes through once while the window keeps its epoch.
func TestManyRounds(t *testing.T) {
	for seed := range int64(6) {
		r := rand.New(rand.NewSource(2162 + seed))
		c := config(1)
		c.Span, c.Room = 1+r.Intn(3), 40
		s, newest := api.State{}, int64(0)
		seen := map[[2]int64]int{} // by epoch and number
		for range 150 {
			at := max(0, newest+int64(r.Intn(6))/4-int64(r.Intn(3)))
			batch := map[int64]int{}
			var cells [][]byte
			for range r.Intn(7) {
				n := int64(r.Intn(12))
				cells = append(cells, sent(c, at, int(n)))
				if seen[[2]int64{at, n}] == 0 {
					batch[n]++
				}
			}
			got := checkMix(t, "a round", c, s, packed(header(s.Next, at, 1), cells...), some(r.Intn(200), r.Int63()))
			if got.Err == api.OK {
				if got.Report.In-got.Report.Replays != len(batch) {
					t.Fatalf("seed %d: %s; want %d fresh", seed, told(got), len(batch))
				}
				for n := range batch {
					seen[[2]int64{at, n}]++
				}
				newest = max(newest, at)
			} else if at > newest-int64(c.Span) && got.Err == api.ErrEpoch {
				t.Fatalf("seed %d: epoch %d is refused, newest is %d", seed, at, newest)
			}
			s = got.State
		}
	}
}
