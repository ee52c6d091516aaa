package round_test

import (
	"fmt"
	"math/rand"
	"slices"
	"testing"

	"churn/api"
	"churn/cell"
	"churn/riffle"
	"churn/round"
	"churn/window"
)

// payloads: what a last output opens to, in its order; a ? for noise.
func payloads(raw []byte) (list []string) {
	for _, x := range read(raw).Cells {
		p, is, e := cell.Open(x)
		switch {
		case e != api.OK:
			list = append(list, fmt.Sprint("error ", e))
		case is:
			list = append(list, string(p))
		default:
			list = append(list, "?")
		}
	}
	return list
}

// P21.1: the chapter's examples of Mix.
func TestExamplesOfMix(t *testing.T) {
	c := quiet(1)
	checkRefused(t, "no bytes", api.State{}, mixes(t, "no bytes", c, api.State{}, nil, make([]byte, 18), api.ErrShort), api.ErrShort, 0)

	none := packed(header(6, 2, 1))
	got := mixes(t, "no cells", c, api.State{}, none, make([]byte, 18), api.OK)
	if got.Report != (api.Report{}) || got.State.Next != 7 || got.State.Window.Newest != 2 || len(read(got.Out).Cells) != 0 {
		t.Errorf("no cells: %s", told(got))
	}
	checkRefused(t, "17 bytes", api.State{}, round.Mix(c, api.State{}, none, make([]byte, 17)), api.ErrTape, 0)

	noisy := config(1)
	x := sent(noisy, 2, 1)
	p := loud(200, 2130)
	first := mixes(t, "a cell twice", noisy, api.State{}, packed(header(6, 2, 1), x, x), p, api.OK)
	if first.Report != (api.Report{In: 2, Replays: 1, Noise: 4, Out: 5}) {
		t.Errorf("a cell twice: %s", told(first))
	}
	again := mixes(t, "once more", noisy, first.State, packed(header(7, 2, 1), x, x), p, api.OK)
	if again.Report != (api.Report{In: 2, Replays: 2, Noise: 4, Out: 4}) || !slices.Equal(payloads(again.Out), []string{"?", "?", "?", "?"}) {
		t.Errorf("once more: %s, %q", told(again), payloads(again.Out))
	}
}

// P21.1: DOC.md's examples of the whole that are a round's: a tape of 17 bytes, whatever the batch; a batch without cells and a tape of 18 noughts; a cell twice; the same cell in another epoch; a window of room 3.
func TestExamplesOfTheWhole(t *testing.T) {
	c := config(1)
	for n := range 4 {
		mixes(t, "a tape of 17 bytes", c, api.State{}, packed(header(6, 2, 1), sentAll(c, 2, 1, n)...), some(17, 2131), api.ErrTape)
	}
	got := mixes(t, "18 noughts", c, api.State{}, packed(header(6, 2, 1)), make([]byte, 18), api.OK)
	if got.Report != (api.Report{}) || got.State.Next != 7 {
		t.Errorf("18 noughts: %s", told(got))
	}

	a, b, p := sent(c, 2, 1), sent(c, 2, 2), some(80, 2132)
	twice := mixes(t, "twice", c, api.State{}, packed(header(6, 2, 1), a, b, a), p, api.OK)
	once := mixes(t, "once", c, api.State{}, packed(header(6, 2, 1), a, b), p, api.OK)
	if twice.Report.Replays != 1 || !slices.Equal(twice.Out, once.Out) || !sameState(twice.State, once.State) {
		t.Errorf("twice: %s; once: %s", told(twice), told(once))
	}

	later := mixes(t, "another epoch", c, once.State, packed(header(7, 3, 1), a, sent(c, 3, 1)), p, api.OK)
	if later.Report.Malformed != 1 || later.Report.Replays != 0 || window.Len(later.State.Window) != 3 {
		t.Errorf("another epoch: %s", told(later))
	}

	c.Room = 3
	s := held(c, 0, 2, 11, 12)
	full := mixes(t, "two into room for one", c, s, packed(header(6, 2, 1), a, b), p, api.ErrFull)
	checkRefused(t, "two into room for one", s, full, api.ErrFull, 0)
	if got := mixes(t, "one into room for one", c, full.State, packed(header(6, 2, 1), b), p, api.OK); got.Report.In != 1 || got.Report.Replays != 0 || window.Len(got.State.Window) != 3 {
		t.Errorf("one into room for one: %s", told(got))
	}
}

// P21.1: a round told by hand: the one chunk's draw below 2 is 0, so the two change places; with the draw 1 they stay.
func TestRoundByHand(t *testing.T) {
	c := quiet(1)
	a, b := sent(c, 3, 1), sent(c, 3, 2)
	for i, want := range [][]string{{"cell 2", "cell 1"}, {"cell 1", "cell 2"}} {
		p := append(make([]byte, 18), 9, 9, 9, byte(i), 0, 0)
		got := mixes(t, "by hand", c, api.State{Next: 2}, packed(header(4, 3, 1), a, turned(b, 5, 1), b, a), p, api.OK)
		if got.Report != (api.Report{In: 4, Malformed: 1, Replays: 1, Out: 2}) || !slices.Equal(payloads(got.Out), want) {
			t.Errorf("draw %d: %s, %q; want %q", i, told(got), payloads(got.Out), want)
		}
		if read(got.Out).Header != header(4, 3, 0) || got.State.Next != 5 || !slices.Equal(got.State.Window.Epochs[0].Tags, held(c, 0, 3, 1, 2).Window.Epochs[0].Tags) {
			t.Errorf("draw %d: header %+v, %s", i, read(got.Out).Header, told(got))
		}
	}
}

// spoiling: one way to have a step refuse, as far as no step ahead of it does.
type spoiling struct {
	what  string
	want  api.Errno
	spoil func(g *given)
}

// A given is what Mix is handed.
type given struct {
	c      api.Config
	s      api.State
	h      api.Header
	cells  [][]byte
	behind []byte // what stands behind the batch's bytes
	tape   []byte
}

func (g given) raw() []byte { return append(packed(g.h, g.cells...), g.behind...) }

func (g given) mix() api.Outcome { return round.Mix(g.c, g.s, g.raw(), g.tape) }

// spoilings: the steps that can refuse, in their order.
func spoilings() []spoiling {
	return []spoiling{
		{"the configuration", api.ErrConfig, func(g *given) { g.c.Cap = 1025 }},
		{"the state", api.ErrConfig, func(g *given) { g.s.Window.Epochs = append(g.s.Window.Epochs, epoch(99, 1)) }},
		{"the bytes", api.ErrMore, func(g *given) { g.behind = []byte{0} }},
		{"the hop", api.ErrHop, func(g *given) { g.h.Left++ }},
		{"the round", api.ErrRound, func(g *given) { g.h.Round = g.s.Next - 1 }},
		{"the epoch", api.ErrEpoch, func(g *given) { g.h.Epoch = g.s.Window.Newest - int64(g.c.Span) }},
		{"the tape", api.ErrTape, func(g *given) { g.tape = g.tape[:17] }},
		{"the crowd", api.ErrCrowd, func(g *given) { g.cells = manyCells }},
		{"the shuffle", api.ErrTape, func(g *given) { g.tape = g.tape[:min(19, len(g.tape))] }},
		{"the window", api.ErrFull, func(g *given) { g.c.Room = window.Len(g.s.Window) + 1 }},
	}
}

// manyCells: a batch's full number, made once: config's of the hop with two left, epoch 9.
var manyCells = sentAll(config(2), 9, 1, 256)

// sound: a round that no step refuses.
func sound() given {
	c := config(2)
	return given{c: c, s: held(c, 5, 9, 1001, 1003), h: header(8, 9, 2), cells: manyCells[:5], tape: loud(3000, 2133)}
}

// P21.1: each step refuses: with its error, At 0 but for the bytes, a copy of the state, no bytes and the zero Report.
func TestRefusedAtEachStep(t *testing.T) {
	g := sound()
	if got := mixes(t, "sound", g.c, g.s, g.raw(), g.tape, api.OK); got.Report != (api.Report{In: 5, Noise: 4, Out: 9}) {
		t.Errorf("nothing spoiled: %s", told(got))
	}
	for _, x := range spoilings() {
		g := sound()
		x.spoil(&g)
		at := 0
		if x.want == api.ErrMore {
			at = 28 + 5*322
		}
		checkRefused(t, x.what, g.s, mixes(t, x.what, g.c, g.s, g.raw(), g.tape, x.want), x.want, at)
	}
}

// P21.1 and rule 2: where several steps would refuse, the first one does: every choice of them.
func TestWhichStepRefusesFirst(t *testing.T) {
	list := spoilings()
	for mask := range 1 << len(list) {
		if mask == 0 || testing.Short() && mask%7 != 1 {
			continue
		}
		g := sound()
		first, what := -1, ""
		for i, x := range list {
			if mask>>i&1 == 0 {
				continue
			}
			x.spoil(&g)
			what += x.what + ", "
			if first < 0 {
				first = i
			}
		}
		at := 0
		if list[first].want == api.ErrMore {
			at = 28 + len(g.cells)*322
		}
		checkRefused(t, what, g.s, g.mix(), list[first].want, at)
	}
}

// P21.1: bytes that are no batch are refused with frame.Read's error and its place, whatever the hop, the round, the epoch and the tape.
func TestPlacesOfFaults(t *testing.T) {
	g := sound()
	raw := g.raw()
	odd := []struct {
		raw  []byte
		at   int
		want api.Errno
	}{
		{turned(raw, 0, 1), 0, api.ErrMagic}, {turned(raw, 4, 2), 4, api.ErrVersion}, {turned(raw, 5, 16), 5, api.ErrHeader}, {turned(raw, 6, 2), 6, api.ErrCount},
		{turned(raw, 8, 64), 8, api.ErrHeader}, {turned(raw, 16, 128), 16, api.ErrHeader}, {turned(raw, 24, 1), 24, api.ErrCell}, {turned(raw, 24+322, 1), 24 + 322, api.ErrCell},
		{turned(raw, 24+2+100, 1), len(raw) - 4, api.ErrFoot}, {turned(raw, len(raw)-1, 1), len(raw) - 4, api.ErrFoot}, {append(slices.Clone(raw), raw...), len(raw), api.ErrMore},
		{turned(raw, 5, 1), len(raw) - 4, api.ErrFoot}, {turned(raw, 15, 15), len(raw) - 4, api.ErrFoot}, {turned(raw, 23, 8), len(raw) - 4, api.ErrFoot},
	}
	for _, x := range odd {
		for _, p := range [][]byte{g.tape, nil} {
			what := fmt.Sprintf("error %d at %d", x.want, x.at)
			checkRefused(t, what, g.s, mixes(t, what, g.c, g.s, x.raw, p, x.want), x.want, x.at)
		}
	}
	for n := range len(raw) {
		if n > 40 && n < len(raw)-330 && n%53 != 0 {
			continue
		}
		checkRefused(t, fmt.Sprintf("%d bytes", n), g.s, round.Mix(g.c, g.s, raw[:n], g.tape), api.ErrShort, n)
	}
}

// P21.1: every Left of a batch at every hop.
func TestHops(t *testing.T) {
	for left := 1; left <= 8; left++ {
		for of := 0; of <= 8; of++ {
			want := api.ErrHop
			if of == left {
				want = api.OK
			}
			got := mixes(t, fmt.Sprintf("Left %d at %d", of, left), config(left), api.State{}, packed(header(1, 0, of)), make([]byte, 18), want)
			if want == api.OK && read(got.Out).Header != header(1, 0, left-1) {
				t.Errorf("Left %d: %+v goes out", left, read(got.Out).Header)
			}
		}
	}
}

// P21.1: rounds below, at and above the state's Next, at both ends.
func TestRounds(t *testing.T) {
	for _, next := range []int64{0, 1, 2, 77, 1 << 32, top - 2, top - 1, top} {
		for _, at := range []int64{0, 1, 2, 76, 77, 78, 1<<32 - 1, 1 << 32, top - 3, top - 2, top - 1} {
			want := api.OK
			if at < next {
				want = api.ErrRound
			}
			got := mixes(t, fmt.Sprintf("round %d, next %d", at, next), quiet(1), api.State{Next: next}, packed(header(at, 0, 1)), make([]byte, 18), want)
			if want == api.OK && (got.State.Next != at+1 || read(got.Out).Header.Round != at) {
				t.Errorf("round %d, next %d: %s", at, next, told(got))
			}
		}
	}
}

// P21.1: epochs about Newest - Span and Newest + MaxLeap, for every span, with cells that would be fresh.
func TestEpochs(t *testing.T) {
	for span := 1; span <= 8; span++ {
		c := quiet(1)
		c.Span = span
		s := api.State{Window: win(100, epoch(int64(101-span), 1), epoch(100, 2))}
		if span == 1 {
			s.Window = win(100, epoch(100, 1, 2))
		}
		for _, at := range []int64{0, 100 - int64(span) - 1, 100 - int64(span), 101 - int64(span), 100, 101, 99 + int64(span), 100 + int64(span), 1123, 1124, 1125, top} {
			want := api.OK
			if at <= 100-int64(span) || at > 1124 {
				want = api.ErrEpoch
			}
			what := fmt.Sprintf("span %d, epoch %d", span, at)
			got := mixes(t, what, c, s, packed(header(3, at, 1), sent(c, at, 1)), make([]byte, 18), want)
			if want != api.OK {
				checkRefused(t, what, s, got, want, 0)
				continue
			}
			if got.State.Window.Newest != max(100, at) || got.Report != (api.Report{In: 1, Out: 1}) || read(got.Out).Header.Epoch != at {
				t.Errorf("%s: %s", what, told(got))
			}
			if round.Check(c, got.State) != api.OK {
				t.Errorf("%s: the new state doesn't fit", what)
			}
		}
	}
}

// P21.1: the window is opened ahead of the sifting and of the room: what falls out is neither a replay's nor in the way.
func TestWhatFallsOut(t *testing.T) {
	c := quiet(1)
	c.Span, c.Room = 2, 3
	// The tag of a cell of epoch 6 stands in epoch 4: there it keeps the cell out only as long as the epoch is kept.
	s := api.State{Window: api.Window{Newest: 5, Epochs: []api.Epoch{{Number: 4, Tags: tagsOf(c, 6, 1, 1)}, epoch(5, 1, 2)}}}
	p := some(60, 2134)
	got := mixes(t, "a newer epoch", c, s, packed(header(1, 6, 1), sent(c, 6, 1)), p, api.OK)
	if got.Report != (api.Report{In: 1, Out: 1}) || window.Len(got.State.Window) != 3 || got.State.Window.Newest != 6 {
		t.Errorf("a newer epoch: %s", told(got))
	}
	mixes(t, "two cells", c, s, packed(header(1, 6, 1), sent(c, 6, 1), sent(c, 6, 2)), p, api.ErrFull)
	far := mixes(t, "a far epoch", c, s, packed(header(1, 1029, 1), sentAll(c, 1029, 1, 3)...), p, api.OK)
	if window.Len(far.State.Window) != 3 || len(far.State.Window.Epochs) != 1 {
		t.Errorf("a far epoch: %s", told(far))
	}

	s.Window.Epochs[0].Tags = tagsOf(c, 5, 1, 1)
	kept := mixes(t, "an epoch that is kept", c, s, packed(header(1, 5, 1), sent(c, 5, 1)), p, api.OK)
	if kept.Report != (api.Report{In: 1, Replays: 1}) {
		t.Errorf("an epoch that is kept: %s", told(kept))
	}
}

// P21.1: a batch of an older epoch that is still kept puts its tags in there.
func TestOlderEpoch(t *testing.T) {
	c := quiet(1)
	s := api.State{Window: win(9, epoch(9, 1))}
	got := mixes(t, "epoch 7", c, s, packed(header(1, 7, 1), sent(c, 7, 1)), some(30, 2135), api.OK)
	want := win(9, api.Epoch{Number: 7, Tags: tagsOf(c, 7, 1, 1)}, epoch(9, 1))
	if !sameState(got.State, api.State{Next: 2, Window: want}) {
		t.Errorf("epoch 7: %s", told(got))
	}
	got = mixes(t, "epoch 7 without cells", c, s, packed(header(1, 7, 1)), some(30, 2135), api.OK)
	if !sameState(got.State, api.State{Next: 2, Window: s.Window}) {
		t.Errorf("epoch 7 without cells: %s", told(got))
	}
}

// P21.1: tapes of every length from none on: ErrTape below 18 bytes, and above just where riffle.Order has not enough.
func TestLengthsOfTapes(t *testing.T) {
	for _, chunks := range []int{1, 2, 3, 7, 64} {
		for n := range 6 {
			c := quiet(2)
			c.Chunks = chunks
			raw := packed(header(3, 1, 2), sentAll(c, 1, 1, n)...)
			refusals := 0
			for length := range 60 {
				p := some(length, 2136)
				want := api.OK
				if length < 18 {
					want = api.ErrTape
				} else if _, e := riffle.Order(p, n, chunks); e != api.OK {
					want, refusals = api.ErrTape, refusals+1
				}
				what := fmt.Sprintf("%d cells, %d chunks, a tape of %d", n, chunks, length)
				got := mixes(t, what, c, api.State{}, raw, p, want)
				if want != api.OK {
					checkRefused(t, what, api.State{}, got, api.ErrTape, 0)
				}
			}
			if (n < 2) != (refusals == 0) {
				t.Errorf("%d cells, %d chunks: %d tapes of 18 bytes or more were refused", n, chunks, refusals)
			}
		}
	}
}

// P21.1: what no draw reads counts for nothing: the tape's last bytes, behind the chunks' parts.
func TestUnreadBytes(t *testing.T) {
	c := config(1)
	c.Chunks = 5
	raw := packed(header(3, 1, 1), sentAll(c, 1, 1, 6)...)
	p := loud(18+62+62, 2137) // of the last 62 each chunk has 12
	want := mixes(t, "as it is", c, api.State{}, raw, p, api.OK)
	for _, at := range []int{len(p) - 1, len(p) - 2} {
		if got := round.Mix(c, api.State{}, raw, turned(p, at, 255)); !sameOutcome(got, want) {
			t.Errorf("byte %d turned: %s; want %s", at, told(got), told(want))
		}
	}
	if got := round.Mix(c, api.State{}, raw, append(slices.Clone(p), 1, 2, 3)); got.Err == api.OK && slices.Equal(got.Out, want.Out) {
		t.Error("a longer tape cuts its parts elsewhere, and yet the same goes out")
	}
}

// P21.1: fresh and noise cells just as many as a batch has, and one more; replays and malformed ones don't count.
func TestCrowds(t *testing.T) {
	c := config(2)
	p := loud(4000, 2138)
	for _, x := range []struct {
		fresh, noise, others int
		want                 api.Errno
	}{
		{256, 0, 0, api.OK}, {255, 1, 0, api.OK}, {256, 1, 0, api.ErrCrowd}, {240, 16, 0, api.OK}, {241, 16, 0, api.ErrCrowd}, {256, 16, 0, api.ErrCrowd},
		{240, 16, 16, api.OK}, {241, 16, 15, api.ErrCrowd}, {255, 1, 1, api.OK}, {0, 16, 256, api.OK}, {1, 16, 255, api.OK},
	} {
		c.Noise, c.Num, c.Den = x.noise, 1, 1
		cells := slices.Clone(manyCells[:x.fresh])
		for i := range x.others {
			if i%2 == 0 || x.fresh == 0 {
				cells = append(cells, make([]byte, 320))
			} else {
				cells = append(cells, manyCells[i%x.fresh])
			}
		}
		what := fmt.Sprintf("%d fresh, %d others, %d of noise", x.fresh, x.others, x.noise)
		got := mixes(t, what, c, api.State{}, packed(header(3, 9, 2), cells...), p, x.want)
		if x.want == api.OK && (got.Report.Out != x.fresh+x.noise || got.Report.Noise != x.noise) {
			t.Errorf("%s: %s", what, told(got))
		}
	}
}

// P21.1: just as many tags as the room takes, and one more; replays need no room.
func TestFullWindows(t *testing.T) {
	c := quiet(2)
	p := some(3000, 2139)
	for _, room := range []int{0, 1, 2, 5, 100} {
		c.Room = room
		for fresh := max(0, room-2); fresh <= room+2; fresh++ {
			for in := range min(room, 2) + 1 {
				s := held(c, 0, 9, 2001, 2000+in)
				want := api.OK
				if in+fresh > room {
					want = api.ErrFull
				}
				cells := append(slices.Clone(manyCells[:fresh]), sentAll(c, 9, 2001, 2000+in)...)
				what := fmt.Sprintf("room %d, %d in, %d fresh", room, in, fresh)
				got := mixes(t, what, c, s, packed(header(3, 9, 2), append(cells, cells...)...), p, want)
				if want == api.OK && (window.Len(got.State.Window) != in+fresh || got.Report.Replays != fresh+2*in) {
					t.Errorf("%s: %s", what, told(got))
				}
			}
		}
	}
}

// P21.1: the greatest room, filled by whole batches.
func TestGreatestRoom(t *testing.T) {
	if testing.Short() {
		t.Skip("thousands of cells")
	}
	c := quiet(1)
	c.Room = api.MaxRoom
	s := api.State{}
	p := some(3000, 2140)
	for i := range 16 {
		got := mixes(t, fmt.Sprint("round ", i), c, s, packed(header(int64(i), 2, 1), sentAll(c, 2, 256*i, 256*i+255)...), p, api.OK)
		s = got.State
	}
	if window.Len(s.Window) != 4096 {
		t.Errorf("%d tags", window.Len(s.Window))
	}
	checkRefused(t, "one more", s, mixes(t, "one more", c, s, packed(header(16, 2, 1), sent(c, 2, 9000)), p, api.ErrFull), api.ErrFull, 0)
	mixes(t, "an old one", c, s, packed(header(16, 2, 1), sent(c, 2, 900)), p, api.OK)
}

// drawn: what a drawn round is handed: a configuration, a state that fits it most often, a batch with cells of all kinds and a tape.
func drawn(r *rand.Rand) given {
	g := given{c: config(1 + r.Intn(8))}
	g.c.Master = some(32, int64(r.Intn(3)))
	g.c.Span, g.c.Room = 1+r.Intn(8), []int{4, 9, 20, 600}[r.Intn(4)]
	g.c.Den = 1 + r.Intn(30)
	g.c.Num, g.c.Noise, g.c.Chunks = r.Intn(g.c.Den+1), r.Intn(17), []int{1, 2, 3, 8, 64}[r.Intn(5)]
	at := int64(20 + r.Intn(3))
	g.s = held(g.c, int64(r.Intn(5)), at, 1, r.Intn(7))
	if r.Intn(4) > 0 {
		at += int64(r.Intn(3)) - 1
	}
	g.h = header(g.s.Next+int64(r.Intn(4)), at, g.c.Left)
	if r.Intn(8) == 0 {
		g.h.Round--
	}
	bad := malformed(g.c, at, 2)
	for range r.Intn(16) {
		if r.Intn(3) == 0 {
			g.cells = append(g.cells, bad[r.Intn(len(bad))].cell)
		} else {
			g.cells = append(g.cells, sent(g.c, at, 1+r.Intn(14)))
		}
	}
	g.tape = make([]byte, 10+r.Intn(20))
	if r.Intn(5) > 0 {
		g.tape = make([]byte, 200+r.Intn(700))
	}
	r.Read(g.tape)
	g.h.Round = max(g.h.Round, 0)
	return g
}

// rounds: so many drawn rounds, fewer of them with -short.
func rounds(seed int64, n int, each func(i int, r *rand.Rand, g given)) {
	r := rand.New(rand.NewSource(seed))
	if testing.Short() {
		n = n/10 + 1
	}
	for i := range n {
		each(i, r, drawn(r))
	}
}

// P21.1: rounds without a rule.
func TestAnyRound(t *testing.T) {
	seen := map[api.Errno]int{}
	rounds(2141, 900, func(i int, _ *rand.Rand, g given) {
		got := checkMix(t, fmt.Sprint("number ", i), g.c, g.s, g.raw(), g.tape)
		seen[got.Err]++
		if got.Err != api.OK {
			checkRefused(t, fmt.Sprint("number ", i), g.s, got, got.Err, 0)
		}
	})
	for _, e := range []api.Errno{api.OK, api.ErrConfig, api.ErrRound, api.ErrEpoch, api.ErrTape, api.ErrFull} {
		if seen[e] == 0 && !testing.Short() {
			t.Errorf("no drawn round ends with error %d: %v", e, seen)
		}
	}
}
