package back_test

import (
	"fmt"
	"math"
	"math/rand"
	"slices"
	"testing"

	"churn/api"
	"churn/back"
	"churn/cell"
	"churn/onion"
	"churn/reply"
	"churn/round"
	"churn/route"
)

// answered: drawn batches of answers that Return takes, and the cells that it answers.
func answered(t *testing.T, seed int64, n int, each func(what string, a asked, cells [][]byte)) {
	t.Helper()
	r := rand.New(rand.NewSource(seed))
	for i := range n {
		a, what := anyAsked(r), fmt.Sprint("number ", i)
		got := goBack(a.c, a.m, a.raw())
		if got.Err != api.OK || got.At != 0 {
			t.Fatalf("%s: %v; the memory is %s", what, got, tell(a.m))
		}
		b := read(got.Raw)
		if b.Header != header(a.m.Header.Round, a.m.Header.Epoch, a.c.Left) {
			t.Errorf("%s: the header is %+v; the memory is %s", what, b.Header, tell(a.m))
		}
		each(what, a, b.Cells)
	}
}

// P29.3: what stands at the place of a cell that was answered is taken by onion.Peel under the key of the way back, and peels to the answer's cell.
func TestThereAndBack(t *testing.T) {
	peeled := 0
	answered(t, 2921, fewer(1500), func(what string, a asked, cells [][]byte) {
		hop := must(route.Key(a.c.Master, a.h.Epoch))
		for i, j := range a.m.From {
			if _, is := definedInside(a.cells[i], a.c.Left); j < 0 || !is {
				continue
			}
			p, e := onion.Peel(must(reply.Key(hop, a.m.Nonces[j])), a.c.Left, cells[j])
			if e != api.OK || !slices.Equal(p.Cell, a.cells[i]) {
				t.Errorf("%s: the cell at %d peels to %.20x with error %d; the answer is %.20x", what, j, p.Cell, e, a.cells[i])
			}
			if [16]byte(cells[j]) != a.m.Nonces[j] {
				t.Errorf("%s: the cell at %d has the nonce %x; want %x", what, j, cells[j][:16], a.m.Nonces[j])
			}
			peeled++
		}
	})
	if peeled < fewer(1500)/2 {
		t.Errorf("only %d were peeled", peeled)
	}
}

// P29.4: as many cells as Count; noughts at each place that stands nowhere in From, or whose answer is none, and nowhere else.
func TestAsMany(t *testing.T) {
	blank, filled := 0, 0
	answered(t, 2922, fewer(1500), func(what string, a asked, cells [][]byte) {
		if len(cells) != a.m.Count {
			t.Fatalf("%s: %d cells; Count is %d", what, len(cells), a.m.Count)
		}
		for j, x := range cells {
			is := false
			if i := slices.Index(a.m.From, j); i >= 0 {
				_, is = definedInside(a.cells[i], a.c.Left)
			}
			if onlyNoughts(x) == is || len(x) != 320 {
				t.Errorf("%s: the cell at %d is %.20x", what, j, x)
			}
			if is {
				filled++
			} else {
				blank++
			}
		}
	})
	if blank < fewer(1500)/2 || filled < fewer(1500)/2 {
		t.Errorf("%d cells of noughts, %d others", blank, filled)
	}
}

// P29.5: every other configuration that is right, with the same Master and Left: each number through all that it may be, and all of them drawn.
func TestOtherConfigs(t *testing.T) {
	for _, left := range []int{1, 2, 8} {
		a := right(left)
		want := checkReturn(t, "as it is", a.c, a.m, a.raw())
		same := func(c api.Config) {
			t.Helper()
			if got := goBack(c, a.m, a.raw()); !got.same(want) {
				t.Errorf("%+v: %v; want %v", c, got, want)
			}
		}
		for n := range 65 {
			c := a.c
			c.Workers, c.Shards, c.Chunks = max(1, n), max(1, 64-n), max(1, n*7%65)
			c.Span, c.Noise, c.Cap, c.Room = 1+n%8, n%17, n*16, n*64
			c.Den = 1 + n*999/64
			for _, c.Num = range []int{0, c.Den / 2, c.Den} {
				same(c)
			}
		}
		r := rand.New(rand.NewSource(2923))
		for range fewer(200) {
			den := 1 + r.Intn(1000)
			same(api.Config{Master: a.c.Master, Left: left, Span: 1 + r.Intn(8), Room: r.Intn(4097), Num: r.Intn(den + 1), Den: den, Noise: r.Intn(17), Chunks: 1 + r.Intn(64), Workers: 1 + r.Intn(64), Cap: r.Intn(1025), Shards: 1 + r.Intn(64)})
		}
		for _, set := range []func(c *api.Config){
			func(c *api.Config) { c.Room = 0 }, func(c *api.Config) { c.Room = 4096 }, func(c *api.Config) { c.Cap = 0 }, func(c *api.Config) { c.Cap = 1024 }, func(c *api.Config) { c.Num, c.Den, c.Noise, c.Room = 0, 1, 0, 0 },
		} {
			c := a.c
			set(&c)
			same(c)
		}
	}
}

// P29.5: the same where it refuses.
func TestOtherConfigsRefused(t *testing.T) {
	other := api.Config{Span: 8, Den: 1, Noise: 0, Chunks: 64, Workers: 64, Cap: 1024, Shards: 64}
	for _, x := range wrongs()[1:] {
		a := right(3)
		x.spoil(&a)
		want := goBack(a.c, a.m, a.raw())
		other.Master, other.Left = a.c.Master, a.c.Left
		if got := goBack(other, a.m, a.raw()); !got.same(want) || got.Err != x.want {
			t.Errorf("%s: %v; want %v", x.what, got, want)
		}
	}
}

// A row is servers, one behind the other, with their states and what they kept of the last round.
type row struct {
	confs  []api.Config
	states []api.State
	kept   []api.Memory
}

// newRow: so many servers, each with a master key and a number of chunks of its own, some with noise.
func newRow(hops int) *row {
	w := &row{states: make([]api.State, hops)}
	for i := range hops {
		c := config(hops - i)
		c.Master = some(32, int64(hops*10+i))
		c.Chunks, c.Noise = 1+i, 3*(i%3)
		w.confs = append(w.confs, c)
	}
	return w
}

func (w *row) masters() (list [][]byte) {
	for _, c := range w.confs {
		list = append(list, c.Master)
	}
	return list
}

// keys: the servers' keys of an epoch.
func (w *row) keys(epoch int64) (list [][]byte) {
	for _, master := range w.masters() {
		list = append(list, must(route.Key(master, epoch)))
	}
	return list
}

// forward: the round through all servers; what the last one puts out.
func (w *row) forward(t *testing.T, raw []byte, seed int64) []byte {
	t.Helper()
	w.kept = nil
	for i, c := range w.confs {
		o, m := goesThrough(t, fmt.Sprintf("server %d of %d", i, len(w.confs)), c, w.states[i], raw, loud(1500, seed+int64(i)))
		if e := back.Check(m); e != api.OK {
			t.Errorf("server %d of %d: Check = %d, %s", i, len(w.confs), e, tell(m))
		}
		w.states[i], raw = o.State, o.Out
		w.kept = append(w.kept, m)
	}
	return raw
}

// back: the answers through all servers, the last one first; what the first one puts out.
func (w *row) back(t *testing.T, raw []byte) []byte {
	t.Helper()
	for i, c := range slices.Backward(w.confs) {
		got := checkReturn(t, fmt.Sprintf("back through server %d of %d", i, len(w.confs)), c, w.kept[i], raw)
		if got.Err != api.OK {
			t.Fatalf("back through server %d of %d: %v", i, len(w.confs), got)
		}
		raw = got.Raw
	}
	return raw
}

// answersTo: to each payload of the last output the same in other letters; to noise noise or noughts, and to a payload that begins with a ! none either.
func answersTo(raw []byte) []byte {
	b := read(raw)
	for i, x := range b.Cells {
		p, is, e := cell.Open(x)
		switch {
		case e != api.OK || !is && i%2 == 0 || is && len(p) > 0 && p[0] == '!':
			b.Cells[i] = noughts
		case is:
			b.Cells[i] = must(cell.Plain(append([]byte("to "), p...)))
		}
	}
	return packed(b.Header, b.Cells...)
}

// noncesOf: a client's, one for each hop.
func noncesOf(client, hops int) (list [][16]byte) {
	for i := range hops {
		list = append(list, [16]byte(some(16, int64(client*100+i))))
	}
	return list
}

// A letter is a cell that a client sends in, and what it should find at its place; no nonces: noughts come back.
type letter struct {
	cell   []byte
	nonces [][16]byte
	want   string
}

// letters: those of a round: clients' cells, one that gets no answer, two that say the same, an empty one, and between them and about them malformed ones and replays.
func letters(keys [][]byte) []letter {
	sealed := func(client int, payload string) []byte {
		return must(route.Wrap(keys, noncesOf(client, len(keys)), []byte(payload)))
	}
	var all []letter
	send := func(client int, payload string) {
		all = append(all, letter{sealed(client, payload), noncesOf(client, len(keys)), "to " + payload})
	}
	drop := func(x []byte) { all = append(all, letter{cell: x}) }
	drop(noughts)
	for client := range 9 {
		send(client, fmt.Sprint("client ", client))
		drop(turned(sealed(client, fmt.Sprint("client ", client)), 17+client, 4))
	}
	drop(sealed(1, "client 1"))
	send(20, "")
	drop(sealed(21, "!answer me not"))
	send(22, "client 3")
	drop(sealed(22, "client 3"))
	return all
}

// P29.1 to P29.4: through one server and more, there and back: in the first server's batch each client finds the answer to its payload at the place of its own cell, and noughts stand at all others.
func TestThroughServers(t *testing.T) {
	for hops := 1; hops <= 8; hops++ {
		w := newRow(hops)
		for at := range int64(3) {
			keys := w.keys(at + 4)
			all := letters(keys)
			var cells [][]byte
			for _, l := range all {
				cells = append(cells, l.cell)
			}
			out := w.forward(t, packed(header(at, at+4, hops), cells...), at*50)
			first := read(w.back(t, answersTo(out)))
			if first.Header != header(at, at+4, hops) || len(first.Cells) != len(all) {
				t.Fatalf("%d servers: %+v, %d cells", hops, first.Header, len(first.Cells))
			}
			for j, l := range all {
				if l.nonces == nil {
					if !onlyNoughts(first.Cells[j]) {
						t.Errorf("%d servers: at %d, where no answer comes, stands %.20x", hops, j, first.Cells[j])
					}
					continue
				}
				if p, e := reply.Open(keys, l.nonces, first.Cells[j]); e != api.OK || string(p) != l.want {
					t.Errorf("%d servers: the answer at %d is %q with error %d; want %q", hops, j, p, e, l.want)
				}
			}
		}
	}
}

// P29.4: a cell that a later server drops has no answer: noughts come back to it through all servers ahead.
func TestDroppedOnTheWay(t *testing.T) {
	for hops := 2; hops <= 8; hops++ {
		for at := 1; at < hops; at++ {
			w := newRow(hops)
			keys := w.keys(2)
			other := slices.Clone(keys)
			other[at] = some(32, 77)
			cells := [][]byte{must(route.Wrap(other, noncesOf(1, hops), []byte("lost"))), must(route.Wrap(keys, noncesOf(2, hops), []byte("there")))}
			first := read(w.back(t, answersTo(w.forward(t, packed(header(0, 2, hops), cells...), 1))))
			p, e := reply.Open(keys, noncesOf(2, hops), first.Cells[1])
			if !onlyNoughts(first.Cells[0]) || e != api.OK || string(p) != "to there" {
				t.Errorf("%d servers, dropped by number %d: %.20x, %q, error %d", hops, at, first.Cells[0], p, e)
			}
		}
	}
}

// No state is looked at: an answer goes back whenever it comes, behind other rounds too, and as often; and other answers to the same batch go back as well.
func TestAnswersWheneverTheyCome(t *testing.T) {
	w := newRow(3)
	type one struct {
		kept []api.Memory
		out  []byte
		want []byte
	}
	var all []one
	for at := range int64(5) {
		keys := w.keys(at)
		out := w.forward(t, packed(header(at, at, 3), must(route.Wrap(keys, noncesOf(1, 3), []byte("a"))), noughts, must(route.Wrap(keys, noncesOf(2, 3), []byte("b")))), at)
		all = append(all, one{w.kept, out, w.back(t, answersTo(out))})
	}
	for n := range 3 {
		for _, x := range slices.Backward(all) {
			w.kept = x.kept
			silent := packed(read(x.out).Header, slices.Repeat([][]byte{noughts}, len(x.kept[2].From))...)
			for _, y := range read(w.back(t, silent)).Cells {
				if !onlyNoughts(y) {
					t.Errorf("without answers there comes %.20x", y)
				}
			}
			if !slices.Equal(w.back(t, answersTo(x.out)), x.want) {
				t.Errorf("time %d: another answer comes", n)
			}
		}
	}
}

// A batch of answers doesn't go back by another round's memory, nor through another server.
func TestAnswersToAnotherRound(t *testing.T) {
	w := newRow(2)
	raw := func(at, epoch int64) []byte {
		return packed(header(at, epoch, 2), must(route.Wrap(w.keys(epoch), noncesOf(1, 2), []byte("a"))))
	}
	answers := answersTo(w.forward(t, raw(1, 5), 1))
	kept := w.kept
	refuses(t, "the first server", w.confs[0], kept[0], answers, 0, api.ErrHop)
	refuses(t, "the first one's memory", w.confs[1], kept[0], answers, 0, api.ErrMemory)
	w.forward(t, raw(2, 5), 2)
	refuses(t, "a later round", w.confs[1], w.kept[1], answers, 0, api.ErrRound)
	w.states = make([]api.State, 2)
	w.forward(t, raw(1, 6), 3)
	refuses(t, "another epoch", w.confs[1], w.kept[1], answers, 0, api.ErrEpoch)
}

// Rule 1: every call ends, whatever it is given; rule 3: and beside an error stands nothing but a place.
func TestAnyArguments(t *testing.T) {
	r := rand.New(rand.NewSource(2924))
	numbers := []int{math.MinInt, -1, 0, 0, 1, 1, 2, 3, 8, 64, 256, 257, math.MaxInt}
	number := func() int { return numbers[r.Intn(len(numbers))] }
	for range fewer(20000) {
		m := api.Memory{Header: header(int64(number()), int64(number()), number()), Count: number()}
		for range r.Intn(4) {
			m.From = append(m.From, number())
		}
		m.Nonces = make([][16]byte, r.Intn(4))
		c := api.Config{Master: make([]byte, 31+r.Intn(2)), Left: number(), Span: number(), Room: number(), Num: number(), Den: number(), Noise: number(), Chunks: number(), Workers: number(), Cap: number(), Shards: number()}
		if r.Intn(2) == 0 {
			c = config(1 + r.Intn(8))
		}
		raw := some(r.Intn(40), r.Int63())
		if r.Intn(2) == 0 {
			raw = packed(header(int64(r.Intn(3)), int64(r.Intn(3)), r.Intn(3)), slices.Repeat([][]byte{full(1+r.Intn(2), 1)}, r.Intn(4))...)
		}
		if got, words := back.Check(m), definedCheck(m); got != words {
			t.Errorf("Check = %d; want %d; the memory is %s", got, words, tell(m))
		}
		checkReturn(t, "anything", c, m, raw)
		s := api.State{Next: int64(number()), Window: api.Window{Newest: int64(number()), Epochs: make([]api.Epoch, r.Intn(2))}}
		o, kept := back.Forward(c, s, raw, raw)
		if want := round.Mix(c, s, raw, raw); !sameOutcome(o, want) || o.Err != api.OK && !sameMemory(kept, api.Memory{}) {
			t.Errorf("Forward: %s, %s; want %s", told(o), tell(kept), told(want))
		}
	}
}
