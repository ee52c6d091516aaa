package crew_test

import (
	"bytes"
	"fmt"
	"math/rand"
	"slices"
	"testing"

	"churn/api"
	"churn/cell"
	"churn/crew"
	"churn/frame"
	"churn/onion"
	"churn/riffle"
	"churn/round"
	"churn/route"
	"churn/window"
)

// some: so many bytes without a rule.
func some(n int, seed int64) []byte {
	p := make([]byte, n)
	rand.New(rand.NewSource(seed)).Read(p)
	return p
}

// loud: a tape of so many bytes that tells as many noise cells as there can be.
func loud(n int, seed int64) []byte {
	p := some(n, seed)
	p[0], p[1] = 255, 255
	return p
}

// must: the answer, where an error would be the test's own fault.
func must[T any](x T, e api.Errno) T {
	if e != api.OK {
		panic(e)
	}
	return x
}

// turned: the bytes with one bit turned.
func turned(p []byte, at int, bit byte) []byte {
	p = slices.Clone(p)
	p[at] ^= bit
	return p
}

var master = bytes.Repeat([]byte{7}, 32)

// key: the hop's key of epoch 9.
var key = must(route.Key(master, 9))

// config: a right configuration of the hop with two left, with noise, and with room for a few batches.
func config(workers, chunks, capacity int) api.Config {
	return api.Config{Master: master, Left: 2, Span: 3, Room: 600, Num: 2, Den: 3, Noise: 4, Chunks: chunks, Workers: workers, Cap: capacity, Shards: 2}
}

// quiet: one without noise.
func quiet(workers, chunks, capacity int) api.Config {
	c := config(workers, chunks, capacity)
	c.Num, c.Noise = 0, 0
	return c
}

// sent: a cell that a hop with so many left peels in epoch 9, number n.
func sent(left, n int) []byte {
	nonce := [16]byte{15: byte(n), 14: byte(n >> 8), 3: 9}
	inner := fmt.Appendf(nil, "cell %d", n)
	return must(cell.Pad(must(onion.Wrap(key, nonce, left, inner))))
}

// cells: a batch's full number of cells for the hop with two left, made once.
var cells = func() (list [][]byte) {
	for n := range 256 {
		list = append(list, sent(2, n))
	}
	return list
}()

// mixed: so many cells, of which some are malformed, and some stand there twice.
func mixed(n int, r *rand.Rand) (list [][]byte) {
	for range n {
		switch r.Intn(6) {
		case 0:
			list = append(list, turned(cells[r.Intn(256)], r.Intn(116), 1))
		case 1:
			list = append(list, cells[r.Intn(4)])
		default:
			list = append(list, cells[r.Intn(256)])
		}
	}
	return list
}

// held: a state at Next 5 and epoch 9 that holds the tags of the cells number first to last.
func held(first, last int) api.State {
	var tags [][16]byte
	for _, c := range cells[first : last+1] {
		tags = append(tags, must(onion.Peel(key, 2, c)).Replay)
	}
	return api.State{Next: 5, Window: must(window.Add(api.Window{Newest: 9}, 9, tags, api.MaxRoom))}
}

// A given is what Run is handed.
type given struct {
	c      api.Config
	s      api.State
	h      api.Header
	cells  [][]byte
	behind []byte // what stands behind the batch's bytes
	tape   []byte
}

// batch: a round of these cells with a long tape, that no step refuses.
func batch(c api.Config, list [][]byte) given {
	return given{c: c, s: api.State{Next: 5, Window: api.Window{Newest: 9}}, h: api.Header{Round: 8, Epoch: 9, Left: 2}, cells: list, tape: loud(6000, 2301)}
}

func (g given) raw() []byte {
	return append(must(frame.Pack(api.Batch{Header: g.h, Cells: g.cells})), g.behind...)
}

func (g given) mix() api.Outcome { return g.mixOf(g.raw()) }

func (g given) run() api.Outcome { return g.runOf(g.raw()) }

// runOf and mixOf: with these bytes in the place of the batch's.
func (g given) runOf(raw []byte) api.Outcome { return crew.Run(g.c, g.s, raw, g.tape) }
func (g given) mixOf(raw []byte) api.Outcome { return round.Mix(g.c, g.s, raw, g.tape) }

// with: the same round by other workers, capacities and shards.
func (g given) with(workers, capacity, shards int) given {
	g.c.Workers, g.c.Cap, g.c.Shards = workers, capacity, shards
	return g
}

func (g given) String() string {
	return fmt.Sprintf("%d cells, %d workers, %d chunks, capacity %d, %d shards, a tape of %d", len(g.cells), g.c.Workers, g.c.Chunks, g.c.Cap, g.c.Shards, len(g.tape))
}

func sameState(a, b api.State) bool {
	return a.Next == b.Next && a.Window.Newest == b.Window.Newest && slices.EqualFunc(a.Window.Epochs, b.Window.Epochs, func(a, b api.Epoch) bool {
		return a.Number == b.Number && slices.Equal(a.Tags, b.Tags)
	})
}

func sameOutcome(a, b api.Outcome) bool {
	return bytes.Equal(a.Out, b.Out) && sameState(a.State, b.State) && a.Report == b.Report && a.Err == b.Err && a.At == b.At
}

// told: an outcome in short.
func told(o api.Outcome) string {
	return fmt.Sprintf("error %d at %d, %+v, %d bytes, next %d, newest %d, %d tags", o.Err, o.At, o.Report, len(o.Out), o.State.Next, o.State.Window.Newest, window.Len(o.State.Window))
}

// checkRun: the outcome, held against the definition's.
func checkRun(t *testing.T, g given) api.Outcome {
	t.Helper()
	o := g.run()
	if want := g.mix(); !sameOutcome(o, want) {
		t.Errorf("%v: %s; want %s", g, told(o), told(want))
	}
	return o
}

// A peeling is what Peel answers.
type peeling struct {
	Peeled []api.Peeled
	Sound  []bool
	Err    api.Errno
}

func peel(key []byte, left int, list [][]byte, workers, capacity int) peeling {
	p, sound, e := crew.Peel(key, left, list, workers, capacity)
	return peeling{p, sound, e}
}

// wordsOfPeel: what the chapter's words say of it: cell by cell, one behind the other.
func wordsOfPeel(key []byte, left int, list [][]byte, workers, capacity int) (want peeling) {
	if len(key) != 32 || left < 1 || left > 8 || workers < 1 || workers > 64 || capacity < 0 || capacity > 1024 {
		return peeling{Err: api.ErrArg}
	}
	for _, c := range list {
		p, e := onion.Peel(key, left, c)
		if e != api.OK {
			p = api.Peeled{}
		}
		want.Peeled = append(want.Peeled, p)
		want.Sound = append(want.Sound, e == api.OK)
	}
	return want
}

func samePeeled(a, b api.Peeled) bool { return bytes.Equal(a.Cell, b.Cell) && a.Replay == b.Replay }

func (a peeling) same(b peeling) bool {
	return a.Err == b.Err && slices.Equal(a.Sound, b.Sound) && slices.EqualFunc(a.Peeled, b.Peeled, samePeeled)
}

func (a peeling) String() string {
	s := fmt.Sprintf("error %d, %d and %d:", a.Err, len(a.Peeled), len(a.Sound))
	for i := range min(len(a.Peeled), len(a.Sound), 20) {
		s += fmt.Sprintf(" %v %.4x", a.Sound[i], a.Peeled[i].Replay)
	}
	return s
}

// checkPeel: the answer, held against the words.
func checkPeel(t *testing.T, what string, key []byte, left int, list [][]byte, workers, capacity int) peeling {
	t.Helper()
	got, want := peel(key, left, list, workers, capacity), wordsOfPeel(key, left, list, workers, capacity)
	if !got.same(want) {
		t.Errorf("%s: %d cells, left %d, %d workers, capacity %d: %v; want %v", what, len(list), left, workers, capacity, got, want)
	}
	return got
}

// A shuffling is what Shuffle answers.
type shuffling struct {
	List [][]byte
	Err  api.Errno
}

func shuffle(p []byte, chunks int, list [][]byte) shuffling {
	l, e := crew.Shuffle(p, chunks, list)
	return shuffling{l, e}
}

func (a shuffling) same(b shuffling) bool {
	return a.Err == b.Err && slices.EqualFunc(a.List, b.List, bytes.Equal)
}

func (a shuffling) String() string {
	s := fmt.Sprintf("error %d, %d cells:", a.Err, len(a.List))
	for _, c := range a.List[:min(20, len(a.List))] {
		s += fmt.Sprintf(" %.4x", c)
	}
	return s
}

// checkShuffle: the answer, held against that of riffle.
func checkShuffle(t *testing.T, what string, p []byte, chunks int, list [][]byte) shuffling {
	t.Helper()
	got := shuffle(p, chunks, list)
	l, e := riffle.Shuffle(p, chunks, list)
	if want := (shuffling{l, e}); !got.same(want) {
		t.Errorf("%s: %d cells, %d chunks, a tape of %d: %v; want %v", what, len(list), chunks, len(p), got, want)
	}
	return got
}

// short: so many cells of a few bytes, all unlike.
func short(n int) (list [][]byte) {
	for i := range n {
		list = append(list, fmt.Append(nil, i))
	}
	return list
}

// far: numbers that lie outside of every limit.
var far = []int{-1, -2, -64, -1024, 1026, 1 << 16, 1 << 32, 1<<32 + 1, 1<<63 - 1, -1 << 63, -1<<63 + 1}
