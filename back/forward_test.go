package back_test

import (
	"fmt"
	"math/rand"
	"slices"
	"testing"

	"churn/api"
	"churn/back"
	"churn/onion"
	"churn/riffle"
	"churn/round"
	"churn/route"
	"churn/window"
)

// P29.1: the chapter's example of a round of a fresh cell, a malformed one and the first once more.
func TestExampleOfForward(t *testing.T) {
	c := quiet(2)
	a := sent(c, 3, 1)
	_, m := goesThrough(t, "three cells", c, api.State{}, packed(header(4, 3, 2), a, turned(a, 40, 1), a), make([]byte, 18))
	if want := (api.Memory{Header: header(4, 3, 1), Count: 3, From: []int{0}, Nonces: [][16]byte{nonce(1), {}, {}}}); !sameMemory(m, want) {
		t.Errorf("the memory is %s", tell(m))
	}
	cells := returns(t, "one answer", c, m, packed(header(4, 3, 1), cellOf(some(82, 1))))
	if len(cells) != 3 || onlyNoughts(cells[0]) || !onlyNoughts(cells[1]) || !onlyNoughts(cells[2]) {
		t.Errorf("what goes back are %d cells %.20x", len(cells), cells)
	}
}

// P29.1: rounds told by hand: with one chunk the draw below 2 is 0, and the two change places, or 1, and they stay; what is dropped stands at each place.
func TestForwardByHand(t *testing.T) {
	c := quiet(1)
	a, b, bad := sent(c, 3, 1), sent(c, 3, 2), make([]byte, 320)
	for _, x := range []struct {
		cells  [][]byte
		places [2]int
	}{
		{[][]byte{a, b}, [2]int{0, 1}}, {[][]byte{b, a}, [2]int{0, 1}}, {[][]byte{bad, a, b}, [2]int{1, 2}}, {[][]byte{a, bad, b}, [2]int{0, 2}}, {[][]byte{a, b, bad}, [2]int{0, 1}},
		{[][]byte{a, a, b}, [2]int{0, 2}}, {[][]byte{a, b, a}, [2]int{0, 1}}, {[][]byte{a, a, a, b, b}, [2]int{0, 3}}, {[][]byte{bad, bad, b, a, bad, b}, [2]int{2, 3}},
		{[][]byte{turned(a, 5, 1), a, turned(b, 300, 1), b}, [2]int{1, 3}}, {[][]byte{turned(a, 319, 1), turned(b, 20, 8), turned(a, 82, 1), a, a, turned(b, 60, 2), b}, [2]int{3, 6}},
	} {
		for draw := range 2 {
			tape := append(make([]byte, 18), 9, 9, 9, byte(draw), 0, 0)
			o, m := goesThrough(t, "by hand", c, api.State{}, packed(header(4, 3, 1), x.cells...), tape)
			want := []int{x.places[1-draw], x.places[draw]}
			if o.Report.Out != 2 || !slices.Equal(m.From, want) || m.Count != len(x.cells) || m.Header != header(4, 3, 0) {
				t.Errorf("the places %v, draw %d: %s, %s", x.places, draw, told(o), tell(m))
			}
			nonces := make([][16]byte, len(x.cells))
			for _, j := range want {
				nonces[j] = [16]byte(x.cells[j])
			}
			if !slices.Equal(m.Nonces, nonces) {
				t.Errorf("the places %v: the nonces are %x", x.places, m.Nonces)
			}
		}
	}
}

// P29.1: noise by hand: with Num and Den alike all of Noise's cells are there, and the order's numbers behind those of the fresh cells are theirs.
func TestForwardNoiseByHand(t *testing.T) {
	c := quiet(2)
	c.Num, c.Den, c.Noise = 1, 1, 2
	tape := append([]byte{255, 255}, make([]byte, 80)...)
	a, b := sent(c, 3, 1), sent(c, 3, 2)
	_, m := goesThrough(t, "two and two", c, api.State{}, packed(header(4, 3, 2), a, noughts, b), tape)
	order := must(riffle.Order(tape, 4, 1))
	want := []int{0, 2, -1, -1}
	for i := range want {
		if m.From[i] != want[order[i]] {
			t.Errorf("From is %v by the order %v", m.From, order)
		}
	}
	_, m = goesThrough(t, "noise alone", c, api.State{}, packed(header(4, 3, 2), noughts, noughts), tape)
	if !slices.Equal(m.From, []int{-1, -1}) || m.Count != 2 || !slices.Equal(m.Nonces, make([][16]byte, 2)) {
		t.Errorf("noise alone: %s", tell(m))
	}
	_, m = goesThrough(t, "noise and no cells", c, api.State{}, packed(header(4, 3, 2)), tape)
	if !slices.Equal(m.From, []int{-1, -1}) || m.Count != 0 || len(m.Nonces) != 0 {
		t.Errorf("noise and no cells: %s", tell(m))
	}
	_, m = goesThrough(t, "nothing", quiet(2), api.State{}, packed(header(4, 3, 2)), make([]byte, 18))
	if !sameMemory(m, api.Memory{Header: header(4, 3, 1)}) {
		t.Errorf("nothing: %s", tell(m))
	}
}

// held: a state that holds the tags of the cells first to last, seen in one epoch.
func held(c api.Config, next, epoch int64, first, last int) api.State {
	var tags [][16]byte
	for n := first; n <= last; n++ {
		p, _ := peels(c, epoch, sent(c, epoch, n))
		tags = append(tags, p.Replay)
	}
	return api.State{Next: next, Window: must(window.Add(api.Window{Newest: epoch}, epoch, tags, api.MaxRoom))}
}

// P29.1: replays of what the window holds, ahead of fresh cells, between them and behind them.
func TestForwardReplays(t *testing.T) {
	c := config(3)
	s := held(c, 2, 9, 1, 4)
	for mask := range 1 << 6 {
		var cells [][]byte
		var fresh []int
		for j := range 6 {
			if mask>>j&1 == 1 {
				cells = append(cells, sent(c, 9, 1+j%4))
				continue
			}
			fresh, cells = append(fresh, j), append(cells, sent(c, 9, 10+j))
		}
		o, m := goesThrough(t, fmt.Sprintf("replays at %b", mask), c, s, packed(header(4, 9, 3), cells...), some(200, int64(mask)))
		if o.Report.Replays != 6-len(fresh) {
			t.Errorf("replays at %b: %s", mask, told(o))
		}
		var from []int
		for _, j := range m.From {
			if j >= 0 {
				from = append(from, j)
			}
		}
		slices.Sort(from)
		if !slices.Equal(from, fresh) {
			t.Errorf("replays at %b: From is %v", mask, m.From)
		}
	}
}

// P29.1: the window is opened ahead: what falls out of it at the batch's epoch is no replay any more; what it keeps is one.
func TestForwardOpensTheWindow(t *testing.T) {
	c := quiet(1)
	c.Span = 2
	tag := func(n int) [][16]byte {
		p, _ := peels(c, 6, sent(c, 6, n))
		return [][16]byte{p.Replay}
	}
	s := api.State{Window: api.Window{Newest: 5, Epochs: []api.Epoch{{Number: 4, Tags: tag(1)}, {Number: 5, Tags: tag(2)}}}}
	_, m := goesThrough(t, "epoch 6", c, s, packed(header(1, 6, 1), sent(c, 6, 2), sent(c, 6, 1)), some(60, 2902))
	if !slices.Equal(m.From, []int{1}) || m.Nonces[0] != [16]byte{} || m.Nonces[1] != nonce(1) {
		t.Errorf("epoch 6: %s", tell(m))
	}
	// A batch of an older epoch that is kept: the newest stays.
	older := wrappedBy(c, 4, nonce(5), "x")
	_, m = goesThrough(t, "epoch 4", c, s, packed(header(1, 4, 1), sent(c, 6, 1), older), some(60, 2903))
	if !slices.Equal(m.From, []int{1}) || m.Header != header(1, 4, 0) {
		t.Errorf("epoch 4: %s", tell(m))
	}
}

// P29.1: cells of one nonce that hold something else are fresh each by itself; a nonce of noughts is kept as it is.
func TestForwardNonces(t *testing.T) {
	c := quiet(2)
	same := [][]byte{wrappedBy(c, 3, nonce(1), "a"), wrappedBy(c, 3, [16]byte{}, "b"), wrappedBy(c, 3, nonce(1), "c"), wrappedBy(c, 3, [16]byte{}, "d"), wrappedBy(c, 3, nonce(1), "a")}
	_, m := goesThrough(t, "nonces twice", c, api.State{}, packed(header(4, 3, 2), same...), some(200, 2904))
	if !slices.Equal(m.Nonces, [][16]byte{nonce(1), {}, nonce(1), {}, {}}) || len(m.From) != 4 || slices.Contains(m.From, 4) {
		t.Errorf("nonces twice: %s", tell(m))
	}
	for seed := range int64(20) {
		n := [16]byte(some(16, seed+2905))
		_, m := goesThrough(t, "any nonce", c, api.State{}, packed(header(4, 3, 2), noughts, wrappedBy(c, 3, n, "x")), make([]byte, 18))
		if !slices.Equal(m.Nonces, [][16]byte{{}, n}) || !slices.Equal(m.From, []int{1}) {
			t.Errorf("nonce %x: %s", n, tell(m))
		}
	}
}

// P29.1: each hop, and rounds and epochs at both ends.
func TestForwardHeaders(t *testing.T) {
	for left := 1; left <= 8; left++ {
		for _, at := range []struct {
			round, epoch, newest int64
		}{
			{0, 0, 0}, {1, 2, 0}, {top - 1, top, top}, {top - 1, top - 1, top}, {top - 2, 5, 3}, {7, top - 1, top - 5}, {1 << 32, 1<<32 + 1, 1 << 32},
		} {
			c := config(left)
			s := api.State{Window: api.Window{Newest: at.newest}}
			what := fmt.Sprintf("Left %d, %+v", left, at)
			_, m := goesThrough(t, what, c, s, packed(header(at.round, at.epoch, left), sentAll(c, at.epoch, 1, 3)...), some(300, at.round))
			if m.Header != header(at.round, at.epoch, left-1) || m.Count != 3 {
				t.Errorf("%s: %s", what, tell(m))
			}
		}
	}
}

// P29.1: every number of cells up to a batch's full one, with and without noise, in any number of chunks.
func TestForwardNumbers(t *testing.T) {
	all := sentAll(config(2), 4, 1, 256)
	for i, n := range []int{0, 1, 2, 3, 5, 16, 64, 65, 239, 240, 255, 256} {
		for _, chunks := range []int{1, 2, 3, 64} {
			for _, most := range []int{0, 1, 16} {
				c := config(2)
				c.Num, c.Den, c.Noise, c.Chunks = 1, 1, most, chunks
				what := fmt.Sprintf("%d cells, %d chunks, noise %d", n, chunks, most)
				tape := loud(18+2*(n+16)+2*(n+16)*8+1000, int64(i))
				if n+most > 256 {
					refused(t, what, c, api.State{}, packed(header(0, 4, 2), all[:n]...), tape, api.ErrCrowd, 0)
					continue
				}
				if n > 100 && testing.Short() && chunks != 3 {
					continue
				}
				o, m := goesThrough(t, what, c, api.State{}, packed(header(0, 4, 2), all[:n]...), tape)
				if o.Report.Noise != most || len(m.From) != n+most || m.Count != n {
					t.Errorf("%s: %s, %s", what, told(o), tell(m))
				}
			}
		}
	}
}

// P29.1: the order hangs on the tape: for each order of four things the tape that gives it, by riffle.Turn.
func TestForwardInAnyOrder(t *testing.T) {
	c := quiet(2)
	c.Chunks = 2
	cells := [][]byte{sent(c, 4, 1), noughts, sent(c, 4, 2), sent(c, 4, 3), sent(c, 4, 1), sent(c, 4, 4)}
	places := []int{0, 2, 3, 5}
	tape := some(90, 2906)
	tape[0], tape[1] = 0, 0
	for k := range 24 {
		list, order := []int{0, 1, 2, 3}, []int{}
		for _, digit := range []int{k / 6, k / 2 % 3, k % 2, 0} {
			order, list = append(order, list[digit]), slices.Delete(list, digit, digit+1)
		}
		p := must(riffle.Turn(tape, 4, 2, order))
		_, m := goesThrough(t, fmt.Sprint("order ", order), c, api.State{}, packed(header(0, 4, 2), cells...), p)
		for i, number := range order {
			if m.From[i] != places[number] {
				t.Errorf("order %v: From is %v", order, m.From)
			}
		}
	}
}

// A given is what Forward is handed.
type given struct {
	c      api.Config
	s      api.State
	h      api.Header
	cells  [][]byte
	behind []byte // what stands behind the batch's bytes
	tape   []byte
}

func (g given) raw() []byte { return append(packed(g.h, g.cells...), g.behind...) }

// A spoiling is one way to have a step refuse, as far as no step ahead of it does.
type spoiling struct {
	what  string
	want  api.Errno
	spoil func(g *given)
}

// spoilings: the steps of a round that can refuse, in their order.
func spoilings() []spoiling {
	return []spoiling{
		{"the configuration", api.ErrConfig, func(g *given) { g.c.Cap = 1025 }},
		{"the state", api.ErrConfig, func(g *given) { g.s.Next = -1 }},
		{"the bytes", api.ErrMore, func(g *given) { g.behind = []byte{0} }},
		{"the hop", api.ErrHop, func(g *given) { g.h.Left++ }},
		{"the round", api.ErrRound, func(g *given) { g.h.Round = max(0, g.s.Next-1) }},
		{"the epoch", api.ErrEpoch, func(g *given) { g.h.Epoch = g.s.Window.Newest - int64(g.c.Span) }},
		{"the tape", api.ErrTape, func(g *given) { g.tape = g.tape[:17] }},
		{"the crowd", api.ErrCrowd, func(g *given) { g.cells = sentAll(g.c, 9, 1, 256) }},
		{"the shuffle", api.ErrTape, func(g *given) { g.tape = g.tape[:min(19, len(g.tape))] }},
		{"the window", api.ErrFull, func(g *given) { g.c.Room = window.Len(g.s.Window) + 1 }},
	}
}

// sound: a round that no step refuses, with a malformed cell and a replay.
func sound() given {
	c := config(2)
	cells := sentAll(c, 9, 1, 5)
	cells = append(cells, noughts, cells[1])
	return given{c: c, s: held(c, 5, 9, 1001, 1003), h: header(8, 9, 2), cells: cells, tape: loud(3000, 2907)}
}

// P29.1: refused at each step: round.Mix's outcome, and the zero memory.
func TestForwardRefused(t *testing.T) {
	g := sound()
	if o, m := goesThrough(t, "sound", g.c, g.s, g.raw(), g.tape); len(m.From) != 9 || o.Report != (api.Report{In: 7, Malformed: 1, Replays: 1, Noise: 4, Out: 9}) {
		t.Errorf("nothing spoiled: %s, %s", told(o), tell(m))
	}
	list := spoilings()
	for i, x := range list {
		for j, y := range list[i:] {
			g := sound()
			x.spoil(&g)
			if j > 0 {
				y.spoil(&g)
			}
			at := 0
			if x.want == api.ErrMore {
				at = 28 + len(g.cells)*322
			}
			refused(t, x.what+" and "+y.what, g.c, g.s, g.raw(), g.tape, x.want, at)
		}
	}
	c := quiet(1)
	refused(t, "no bytes", c, api.State{}, nil, make([]byte, 18), api.ErrShort, 0)
	refused(t, "no tape", c, api.State{}, packed(header(0, 0, 1)), nil, api.ErrTape, 0)
	refused(t, "nothing at all", api.Config{}, api.State{}, nil, nil, api.ErrConfig, 0)
}

// P29.1: bytes that are no batch: the place that frame.Read tells, and the zero memory.
func TestForwardPlaces(t *testing.T) {
	g := sound()
	raw := g.raw()
	for _, at := range []int{0, 1, 4, 5, 6, 7, 8, 15, 16, 23, 24, 25, 26, 345, 346, 347, 348, len(raw) - 5, len(raw) - 4, len(raw) - 1} {
		for _, bit := range []byte{1, 16, 128} {
			o, m := checkForward(t, fmt.Sprintf("byte %d turned", at), g.c, g.s, turned(raw, at, bit), g.tape)
			if o.Err == api.OK || !sameMemory(m, api.Memory{}) {
				t.Errorf("byte %d turned: %s, %s", at, told(o), tell(m))
			}
		}
	}
	for n := 0; n < len(raw); n += 1 + n/9 {
		refused(t, fmt.Sprintf("%d bytes", n), g.c, g.s, raw[:n], g.tape, api.ErrShort, n)
	}
}

// anyRound: a drawn round, most often one that goes through: fresh cells, malformed ones, those of another epoch, and replays of the window's and of the batch's own.
func anyRound(r *rand.Rand) given {
	c := config(1 + r.Intn(8))
	c.Master = some(32, r.Int63())
	c.Span, c.Room, c.Num, c.Den, c.Noise, c.Chunks = 1+r.Intn(8), 40, r.Intn(4), 3, r.Intn(17), 1+r.Intn([]int{3, 64}[r.Intn(2)])
	at := int64(r.Intn(2000)) + 8
	g := given{c: c, s: held(c, at/2, at, 1, 1+r.Intn(4)), h: header(at/2+int64(r.Intn(3)), at, c.Left)}
	n := r.Intn(30)
	for range n {
		x := sent(c, at, 1+r.Intn(40))
		switch r.Intn(8) {
		case 0:
			x = turned(x, r.Intn(320), 1<<r.Intn(8))
		case 1:
			x = sent(c, at+1, r.Intn(5))
		case 2:
			x = some(320, r.Int63())
		case 3:
			if len(g.cells) > 0 {
				x = g.cells[r.Intn(len(g.cells))]
			}
		}
		g.cells = append(g.cells, x)
	}
	switch r.Intn(9) {
	case 0:
		g.h.Epoch += int64(r.Intn(5)) - 2
	case 1:
		g.h.Round -= 2
	case 2:
		g.c.Room = r.Intn(20)
	}
	g.h.Round = max(0, g.h.Round)
	g.tape = some(18+r.Intn(40)*r.Intn(60), r.Int63())
	return g
}

// P29.1: drawn rounds.
func TestForwardAny(t *testing.T) {
	r := rand.New(rand.NewSource(2908))
	seen := map[api.Errno]int{}
	n := fewer(400)
	for i := range n {
		g := anyRound(r)
		o, _ := checkForward(t, fmt.Sprint("number ", i), g.c, g.s, g.raw(), g.tape)
		seen[o.Err]++
	}
	if seen[api.OK] < n/4 || seen[api.OK] > n-n/8 {
		t.Errorf("the drawn rounds are too much alike: %v", seen)
	}
}

// P29.2: beside an outcome that is OK the memory is right, tells Report's numbers, and each cell that went out is what the one that From names peels to.
func TestWhatIsKept(t *testing.T) {
	r := rand.New(rand.NewSource(2909))
	through := 0
	for i := range fewer(400) {
		g := anyRound(r)
		o, m := back.Forward(g.c, g.s, g.raw(), g.tape)
		if o.Err != api.OK {
			continue
		}
		through++
		out, noise := read(o.Out), 0
		if e := back.Check(m); e != api.OK || len(m.From) != o.Report.Out || len(m.From) != len(out.Cells) || m.Count != o.Report.In || m.Header != out.Header {
			t.Fatalf("number %d: Check = %d, %s, %s", i, e, told(o), tell(m))
		}
		key := must(route.Key(g.c.Master, g.h.Epoch))
		for k, j := range m.From {
			if j < 0 {
				noise++
				continue
			}
			p, e := onion.Peel(key, g.c.Left, g.cells[j])
			if e != api.OK || !slices.Equal(p.Cell, out.Cells[k]) || m.Nonces[j] != [16]byte(g.cells[j][:16]) {
				t.Errorf("number %d: the cell from place %d peels with error %d; its nonce is %x", i, j, e, m.Nonces[j])
			}
		}
		if noise != o.Report.Noise {
			t.Errorf("number %d: %d of noise; the report is %+v", i, noise, o.Report)
		}
		for j, n := range m.Nonces {
			if !slices.Contains(m.From, j) && n != [16]byte{} {
				t.Errorf("number %d: at place %d, which went nowhere, stands the nonce %x", i, j, n)
			}
		}
	}
	if through < fewer(400)/4 {
		t.Errorf("only %d rounds went through", through)
	}
}

// P29.1: behind a round that was refused, and behind one that went through, a further one by the state that it answers.
func TestForwardInARow(t *testing.T) {
	c := config(2)
	c.Room = 12
	s := api.State{}
	r := rand.New(rand.NewSource(2910))
	through := 0
	for i := range 60 {
		epoch := int64(i / 10)
		var cells [][]byte
		for range r.Intn(5) {
			cells = append(cells, sent(c, epoch, r.Intn(8)))
		}
		o, _ := checkForward(t, fmt.Sprint("round ", i), c, s, packed(header(int64(i), epoch, 2), cells...), some(r.Intn(200), int64(i)))
		if o.Err == api.OK {
			through++
		}
		s = o.State
	}
	if through < 20 || through > 58 || round.Check(c, s) != api.OK {
		t.Errorf("%d of 60 rounds went through", through)
	}
}
