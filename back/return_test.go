package back_test

import (
	"fmt"
	"math"
	"math/rand"
	"slices"
	"testing"

	"churn/api"
	"churn/back"
	"churn/cell"
	"churn/frame"
)

// replied: a batch of answers to what went out by a memory.
func replied(m api.Memory, answers ...[]byte) []byte { return packed(m.Header, answers...) }

// full: an answer's cell for a server with so many left, with all bytes inside that fit.
func full(left int, seed int64) []byte {
	if left == 1 {
		return must(cell.Plain(some(48, seed)))
	}
	p := some(sizes[left-2], seed)
	p[0], p[len(p)-1] = 1, 2
	return cellOf(p)
}

// fulls: n of them.
func fulls(left, n int) (cells [][]byte) {
	for i := range n {
		cells = append(cells, full(left, int64(i)))
	}
	return cells
}

// P29.1: the chapter's examples of Return.
func TestExamplesOfReturn(t *testing.T) {
	refuses(t, "Left 3 and a memory of 1", config(3), memory(1, 2), nil, 0, api.ErrMemory)
	m := memory(2, 2)
	refuses(t, "a batch of Left 1, the memory says 2", config(3), m, packed(header(5, 6, 1), noughts, noughts), 0, api.ErrHop)

	c := config(1)
	got := checkReturn(t, "the zero memory", c, api.Memory{}, packed(header(0, 0, 0)))
	if !got.same(gone{Raw: packed(header(0, 0, 1))}) {
		t.Errorf("the zero memory: %v", got)
	}
	for _, x := range []struct {
		raw  []byte
		want api.Errno
	}{
		{packed(header(0, 0, 0), noughts), api.ErrCount}, {packed(header(1, 0, 0)), api.ErrRound}, {packed(header(0, 1, 0)), api.ErrEpoch}, {packed(header(0, 0, 1)), api.ErrHop}, {packed(header(1, 1, 8), noughts), api.ErrHop},
	} {
		refuses(t, "the zero memory and another batch", c, api.Memory{}, x.raw, 0, x.want)
	}
	for left := 2; left <= 8; left++ {
		refuses(t, "the zero memory at another hop", config(left), api.Memory{}, packed(header(0, 0, 0)), 0, api.ErrMemory)
	}
}

// An asked is what Return is handed.
type asked struct {
	c      api.Config
	m      api.Memory
	h      api.Header
	cells  [][]byte
	behind []byte
}

func (a asked) raw() []byte { return append(packed(a.h, a.cells...), a.behind...) }

// right: what Return takes at a hop with so many left.
func right(left int) asked {
	m := memory(left-1, 3)
	m.From = []int{2, -1, 0}
	return asked{c: config(left), m: m, h: m.Header, cells: fulls(left, 3)}
}

// A wrong is one way to have a step of Return refuse, as far as no step ahead of it does.
type wrong struct {
	what  string
	want  api.Errno
	spoil func(a *asked)
}

// wrongs: the faults in their order.
func wrongs() []wrong {
	return []wrong{
		{"the configuration", api.ErrConfig, func(a *asked) { a.c.Den = 0 }},
		{"the memory", api.ErrMemory, func(a *asked) { a.m.Nonces = a.m.Nonces[1:] }},
		{"the memory's Left", api.ErrMemory, func(a *asked) { a.m.Header.Left++ }},
		{"the bytes", api.ErrMore, func(a *asked) { a.behind = []byte{0} }},
		{"the hop", api.ErrHop, func(a *asked) { a.h.Left++ }},
		{"the round", api.ErrRound, func(a *asked) { a.h.Round++ }},
		{"the epoch", api.ErrEpoch, func(a *asked) { a.h.Epoch-- }},
		{"how many there are", api.ErrCount, func(a *asked) { a.cells = a.cells[1:] }},
	}
}

// P29.1 and rule 2: Return refused at each of its steps, and where several would refuse, by the first: every choice of them.
func TestWhichFaultIsFirst(t *testing.T) {
	list := wrongs()
	for _, left := range []int{1, 2, 5, 7} {
		if cells := returns(t, "nothing wrong", right(left).c, right(left).m, right(left).raw()); len(cells) != 3 || !onlyNoughts(cells[1]) {
			t.Errorf("nothing wrong: %d cells", len(cells))
		}
		for mask := 1; mask < 1<<len(list); mask++ {
			a, first, what := right(left), -1, ""
			for i, x := range list {
				if mask>>i&1 == 0 {
					continue
				}
				x.spoil(&a)
				what += x.what + ", "
				if first < 0 {
					first = i
				}
			}
			at := 0
			if list[first].want == api.ErrMore {
				at = 28 + len(a.cells)*322
			}
			refuses(t, what, a.c, a.m, a.raw(), at, list[first].want)
		}
	}
}

// P29.1: each number of a configuration at, below and above its limits; the master's length.
func TestReturnConfig(t *testing.T) {
	for _, knob := range []struct {
		name    string
		low, up int
		set     func(c *api.Config, n int)
	}{
		{"Span", 1, 8, func(c *api.Config, n int) { c.Span = n }},
		{"Room", 0, 4096, func(c *api.Config, n int) { c.Room = n }},
		{"Num", 0, 3, func(c *api.Config, n int) { c.Num = n }},
		{"Den", 2, 1000, func(c *api.Config, n int) { c.Den = n }},
		{"Noise", 0, 16, func(c *api.Config, n int) { c.Noise = n }},
		{"Chunks", 1, 64, func(c *api.Config, n int) { c.Chunks = n }},
		{"Workers", 1, 64, func(c *api.Config, n int) { c.Workers = n }},
		{"Cap", 0, 1024, func(c *api.Config, n int) { c.Cap = n }},
		{"Shards", 1, 64, func(c *api.Config, n int) { c.Shards = n }},
	} {
		for _, n := range []int{math.MinInt, -1, 0, 1, knob.low - 1, knob.low, knob.up, knob.up + 1, math.MaxInt} {
			a := right(2)
			knob.set(&a.c, n)
			what := fmt.Sprint(knob.name, " ", n)
			if n < knob.low || n > knob.up {
				refuses(t, what, a.c, a.m, a.raw(), 0, api.ErrConfig)
				continue
			}
			returns(t, what, a.c, a.m, a.raw())
		}
	}
	for n := range 70 {
		a := right(3)
		a.c.Master = some(n, 2911)
		if n != 32 {
			refuses(t, fmt.Sprint("a master of ", n), a.c, a.m, a.raw(), 0, api.ErrConfig)
		}
	}
	for _, left := range []int{math.MinInt, -1, 0, 9, 10, math.MaxInt} {
		a := right(1)
		a.c.Left, a.m.Header.Left = left, left-1
		refuses(t, fmt.Sprint("Left ", left), a.c, a.m, a.raw(), 0, api.ErrConfig)
	}
}

// P29.1: every Left of a configuration with every Left of a memory and every Left of a batch.
func TestReturnLefts(t *testing.T) {
	for left := 1; left <= 8; left++ {
		for of := -1; of <= 8; of++ {
			for batch := range 9 {
				a := right(left)
				a.m.Header.Left, a.h.Left = of, batch
				what := fmt.Sprintf("Left %d, the memory's %d, the batch's %d", left, of, batch)
				switch {
				case of != left-1:
					refuses(t, what, a.c, a.m, a.raw(), 0, api.ErrMemory)
				case batch != of:
					refuses(t, what, a.c, a.m, a.raw(), 0, api.ErrHop)
				default:
					returns(t, what, a.c, a.m, a.raw())
				}
			}
		}
	}
}

// P29.1: rounds and epochs of the memory and of the batch, one below, the same, one above, and far away.
func TestReturnRoundsAndEpochs(t *testing.T) {
	numbers := []int64{0, 1, 2, 255, 256, 1 << 32, 1<<32 + 1, top - 2, top - 1}
	for _, of := range numbers {
		for _, batch := range numbers {
			a := right(2)
			a.m.Header.Round, a.h.Round = of, batch
			a.m.Header.Epoch, a.h.Epoch = of+1, batch+1
			what := fmt.Sprintf("the memory's %d, the batch's %d", of, batch)
			if of != batch {
				refuses(t, what, a.c, a.m, a.raw(), 0, api.ErrRound)
				a.h.Round = of
				refuses(t, what, a.c, a.m, a.raw(), 0, api.ErrEpoch)
				continue
			}
			returns(t, what, a.c, a.m, a.raw())
		}
	}
}

// P29.1: how many cells the batch has, and how many numbers From has; what Count is has no say in it.
func TestReturnCounts(t *testing.T) {
	for _, count := range []int{0, 1, 2, 3, 255, 256} {
		for _, n := range []int{0, 1, 2, 3, 255, 256} {
			m := memory(3, count)
			m.From = many(n, -1)
			for i := range min(n, count) {
				m.From[n-1-i] = i
			}
			for _, cells := range []int{0, 1, n - 1, n, n + 1, count, 256} {
				if cells < 0 || cells > 256 {
					continue
				}
				what := fmt.Sprintf("Count %d, %d numbers, %d cells", count, n, cells)
				raw := replied(m, fulls(4, cells)...)
				if cells != n {
					refuses(t, what, config(4), m, raw, 0, api.ErrCount)
					continue
				}
				for j, x := range returns(t, what, config(4), m, raw) {
					if onlyNoughts(x) == slices.Contains(m.From, j) {
						t.Errorf("%s: cell %d is %.20x", what, j, x)
					}
				}
			}
		}
	}
}

// P29.1: bytes that are no batch are refused with frame.Read's error and its place, whatever else the batch is.
func TestReturnPlaces(t *testing.T) {
	a := right(2)
	raw := a.raw()
	end := len(raw) - 4
	for _, x := range []struct {
		raw  []byte
		at   int
		want api.Errno
	}{
		{turned(raw, 0, 1), 0, api.ErrMagic}, {turned(raw, 3, 1), 0, api.ErrMagic}, {turned(raw, 4, 2), 4, api.ErrVersion}, {turned(raw, 5, 16), 5, api.ErrHeader}, {turned(raw, 6, 2), 6, api.ErrCount},
		{turned(raw, 8, 64), 8, api.ErrHeader}, {turned(raw, 16, 128), 16, api.ErrHeader}, {turned(raw, 24, 1), 24, api.ErrCell}, {turned(raw, 24+322, 1), 24 + 322, api.ErrCell}, {turned(raw, 24+2*322+1, 1), 24 + 2*322, api.ErrCell},
		{turned(raw, 24+2+100, 1), end, api.ErrFoot}, {turned(raw, len(raw)-1, 1), end, api.ErrFoot}, {append(slices.Clone(raw), raw...), len(raw), api.ErrMore}, {append(slices.Clone(raw), 0), len(raw), api.ErrMore},
		{turned(raw, 5, 2), end, api.ErrFoot}, {turned(raw, 15, 15), end, api.ErrFoot}, {turned(raw, 23, 8), end, api.ErrFoot}, {turned(raw, 7, 1), 24 + 2*322, api.ErrFoot}, {turned(raw, 7, 4), 24 + 3*322, api.ErrCell},
	} {
		refuses(t, fmt.Sprintf("error %d at %d", x.want, x.at), a.c, a.m, x.raw, x.at, x.want)
	}
	for n := range raw {
		refuses(t, fmt.Sprintf("%d bytes", n), a.c, a.m, raw[:n], n, api.ErrShort)
	}
	for seed := range int64(50) {
		junk := some(int(seed*seed), seed)
		_, at, e := frame.Read(junk)
		refuses(t, "bytes without a rule", a.c, a.m, junk, at, e)
	}
}

// P29.1: answers to the last server: payloads of each length, noise, and cells of which cell.Open tells an error.
func TestAnswersToTheLast(t *testing.T) {
	c, m := config(1), memory(0, 1)
	for n := range 49 {
		for _, p := range [][]byte{make([]byte, n), slices.Repeat([]byte{255}, n), some(n, 2912)} {
			what := fmt.Sprintf("a payload of %d", n)
			x := returns(t, what, c, m, replied(m, must(cell.Plain(p))))[0]
			if !slices.Equal(x, layer(c.Master, 6, nonce(1), 1, p)) {
				t.Errorf("%s: %.40x", what, x)
			}
		}
	}
	for what, x := range map[string][]byte{
		"noughts": noughts, "noise": must(cell.Noise(some(319, 1))), "noise that looks like a payload": cellOf([]byte{0, 2, 'h', 'i'}), "noise of one bit": with(noughts, 319, 1),
		"a kind of 2": cellOf([]byte{2, 2, 'h', 'i'}), "a kind of 255": cellOf([]byte{255, 2, 'h', 'i'}), "a payload of 49": cellOf([]byte{1, 49}, some(49, 1)), "a payload of 255": cellOf([]byte{1, 255}, some(255, 1)),
		"a byte behind the payload": cellOf([]byte{1, 2, 'h', 'i', 1}), "a byte behind no payload": cellOf([]byte{1, 0, 1}), "a byte at the end": with(must(cell.Plain([]byte("hi"))), 319, 1), "no rule": with(some(320, 1), 0, 7), "an onion": with(full(2, 1), 0, 3),
	} {
		if got := returns(t, what, c, m, replied(m, x))[0]; !onlyNoughts(got) {
			t.Errorf("%s: %.40x", what, got)
		}
	}
}

// P29.1: answers to the last server with each byte of the first two, and another in each of the others.
func TestAnswersByteByByte(t *testing.T) {
	c, m := config(1), memory(0, 256)
	for _, second := range []byte{0, 1, 2, 48, 49, 50, 255} {
		var cells [][]byte
		for kind := range 256 {
			cells = append(cells, cellOf([]byte{byte(kind), second, 5}))
		}
		for j, x := range returns(t, "each kind", c, m, replied(m, cells...)) {
			// The answers come in the order turned round.
			if onlyNoughts(x) != (255-j != 1 || second == 0 || second > 48) {
				t.Errorf("the kind %d, length %d: %.40x", 255-j, second, x)
			}
		}
	}
	for at := range 320 {
		x := with(must(cell.Plain(some(20, 2913))), at, 77)
		returns(t, fmt.Sprint("another byte at ", at), c, memory(0, 1), replied(memory(0, 1), x))
	}
}

// P29.1: answers to a server with more left: one byte that isn't a nought at each place. Up to the next onion's end it is an answer; behind that it is none; and so are noughts alone.
func TestAnswersOnTheWay(t *testing.T) {
	for left := 2; left <= 8; left++ {
		c, m := config(left), memory(left-1, 1)
		for at := range 320 {
			what := fmt.Sprintf("Left %d, a byte at %d", left, at)
			x := with(noughts, at, 1<<(at%8))
			got := returns(t, what, c, m, replied(m, x))[0]
			if at >= sizes[left-2] != onlyNoughts(got) {
				t.Errorf("%s: %.40x", what, got)
			}
			x = full(left, int64(at))
			x[at]++
			if got := returns(t, what+", all others full", c, m, replied(m, x))[0]; at >= sizes[left-2] != onlyNoughts(got) {
				t.Errorf("%s, all others full: %.40x", what, got)
			}
		}
		for what, x := range map[string][]byte{"noughts": noughts, "a byte too long": cellOf(some(sizes[left-2], 1), []byte{1}), "a whole cell": slices.Repeat([]byte{7}, 320)} {
			if got := returns(t, what, c, m, replied(m, x))[0]; !onlyNoughts(got) {
				t.Errorf("Left %d, %s: %.40x", left, what, got)
			}
		}
		// What is inside isn't looked at: a plain cell, noise too, is as good as an onion.
		for _, x := range [][]byte{must(cell.Plain(some(48, 1))), must(cell.Plain(nil)), must(cell.Noise(some(60, 1))), full(left, 1), cellOf([]byte{0, 0, 0, 1}), cellOf([]byte{2})} {
			got := returns(t, "anything", c, m, replied(m, x))[0]
			if !slices.Equal(got, layer(c.Master, 6, nonce(1), left, x[:sizes[left-2]])) {
				t.Errorf("Left %d, %.20x: %.40x", left, x, got)
			}
		}
	}
}

// P29.1: one answer at each place; the others are none, each in its way: it is the cell at the place of what it answers that is full, and no other.
func TestOneAnswer(t *testing.T) {
	for _, left := range []int{1, 2, 8} {
		c := config(left)
		m := memory(left-1, 7)
		m.From = []int{3, -1, 0, 6, -1, 1, 5}
		for i, j := range m.From {
			cells := slices.Repeat([][]byte{noughts}, 7)
			cells[(i+1)%7] = with(noughts, 319, 1) // none either
			cells[i] = full(left, 5)
			for k, x := range returns(t, "one answer", c, m, replied(m, cells...)) {
				if onlyNoughts(x) == (k == j) {
					t.Errorf("Left %d, the answer at place %d: cell %d is %.20x", left, i, k, x)
				}
			}
		}
	}
}

// P29.1: answers to noise are dropped, whatever they are; and answers alike are wrapped each under its own nonce.
func TestAnswersToNoise(t *testing.T) {
	for left := 1; left <= 8; left++ {
		c, m := config(left), memory(left-1, 2)
		m.From = []int{-1, -1, -1}
		for _, x := range returns(t, "noise alone", c, m, replied(m, fulls(left, 3)...)) {
			if !onlyNoughts(x) {
				t.Errorf("Left %d: %.20x", left, x)
			}
		}
		m = memory(left-1, 4)
		m.Nonces[2] = m.Nonces[0]
		m.Nonces[3] = [16]byte{}
		cells := returns(t, "alike", c, m, replied(m, slices.Repeat([][]byte{full(left, 9)}, 4)...))
		if !slices.Equal(cells[0], cells[2]) || slices.Equal(cells[0], cells[1]) || onlyNoughts(cells[3]) {
			t.Errorf("Left %d: answers alike are %.40x", left, cells)
		}
	}
}

// P29.1: the key is that of the memory's epoch and the configuration's master.
func TestKeysOfAnswers(t *testing.T) {
	seen := map[string]string{}
	for _, epoch := range []int64{0, 1, 2, 255, 256, 1 << 32, top - 1, top} {
		for master := range byte(4) {
			c, m := config(3), memory(2, 1)
			c.Master = slices.Repeat([]byte{master}, 32)
			m.Header.Epoch = epoch
			what := fmt.Sprintf("epoch %d, master %d", epoch, master)
			x := string(returns(t, what, c, m, replied(m, full(3, 1)))[0])
			if other, is := seen[x]; is {
				t.Errorf("%s gives the same as %s", what, other)
			}
			seen[x] = what
		}
	}
}

// anyAnswer: a drawn cell, an answer or none.
func anyAnswer(r *rand.Rand, left int) []byte {
	switch r.Intn(7) {
	case 0:
		return noughts
	case 1:
		return must(cell.Noise(some(r.Intn(320), r.Int63())))
	case 2:
		return some(320, r.Int63())
	case 3:
		return cellOf(some(r.Intn(321), r.Int63()))
	case 4:
		return with(full(left, r.Int63()), r.Intn(320), byte(r.Intn(256)))
	case 5:
		return must(cell.Plain(some(r.Intn(49), r.Int63())))
	}
	return full(left, r.Int63())
}

// anyAsked: a drawn memory and a batch of answers to it, at a drawn hop.
func anyAsked(r *rand.Rand) asked {
	m := anyMemory(r)
	a := asked{c: config(m.Header.Left + 1), m: m, h: m.Header}
	a.c.Master = some(32, r.Int63())
	for range m.From {
		a.cells = append(a.cells, anyAnswer(r, a.c.Left))
	}
	return a
}

// P29.1: drawn memories and batches, some of them with faults.
func TestReturnAny(t *testing.T) {
	r := rand.New(rand.NewSource(2914))
	seen := map[api.Errno]int{}
	n := fewer(3000)
	for i := range n {
		a := anyAsked(r)
		raw := a.raw()
		switch r.Intn(12) {
		case 0:
			spoilMemory(r, &a.m)
		case 1:
			list := wrongs()
			if x := list[r.Intn(len(list))]; x.want != api.ErrMemory && a.h.Left < 8 && a.h.Round < top-1 && a.h.Epoch > 0 && len(a.cells) > 0 {
				x.spoil(&a)
				raw = a.raw()
			}
		case 2:
			raw = raw[:r.Intn(len(raw)+1)]
		case 3:
			raw = turned(raw, r.Intn(len(raw)), 1<<r.Intn(8))
		}
		seen[checkReturn(t, fmt.Sprint("number ", i), a.c, a.m, raw).Err]++
	}
	if seen[api.OK] < n/2 || len(seen) < 6 || seen[api.OK] > n-n/10 {
		t.Errorf("the drawn ones are too much alike: %v", seen)
	}
}

// P29.1: a full batch, each at the place that a drawn order tells.
func TestReturnOfMany(t *testing.T) {
	r := rand.New(rand.NewSource(2915))
	for _, left := range []int{1, 2, 8} {
		for _, count := range []int{255, 256} {
			m := memory(left-1, count)
			r.Shuffle(count, func(i, j int) { m.From[i], m.From[j] = m.From[j], m.From[i] })
			for i := range m.From {
				if r.Intn(9) == 0 {
					m.From[i] = -1
				}
			}
			cells := fulls(left, count)
			got := returns(t, fmt.Sprint(count, " cells"), config(left), m, replied(m, cells...))
			for i, j := range m.From {
				if j < 0 {
					continue
				}
				if inner, _ := definedInside(cells[i], left); !slices.Equal(got[j], layer(config(left).Master, 6, nonce(j+1), left, inner)) {
					t.Errorf("%d cells: the answer at %d isn't at %d", count, i, j)
				}
			}
		}
	}
}

// P29.1: the errors' numbers, as the document tells them.
func TestNumbersOfErrors(t *testing.T) {
	for i, x := range wrongs() {
		a := right(2)
		x.spoil(&a)
		_, _, e := back.Return(a.c, a.m, a.raw())
		if want := []int{210, 290, 290, 66, 212, 211, 161, 63}[i]; int(e) != want {
			t.Errorf("%s: error %d; want %d", x.what, e, want)
		}
	}
	if e := back.Check(api.Memory{Count: -1}); int(e) != 290 {
		t.Errorf("Check: error %d", e)
	}
}
