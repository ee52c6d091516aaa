package server_test

import (
	"bytes"
	"fmt"
	"math/rand"
	"slices"
	"testing"

	"churn/api"
	"churn/cell"
	"churn/frame"
	"churn/onion"
	"churn/round"
	"churn/route"
	"churn/server"
	"churn/window"
)

// must: the answer, where an error would be the test's own fault.
func must[T any](x T, e api.Errno) T {
	if e != api.OK {
		panic(e)
	}
	return x
}

// some: so many bytes without a rule.
func some(n int, seed int64) []byte {
	p := make([]byte, n)
	rand.New(rand.NewSource(seed)).Read(p)
	return p
}

// loud: a tape of so many bytes that tells as many noise cells as there can be.
func loud(n int, seed int64) []byte {
	p := some(n, seed)
	p[0], p[1] = 255, 255
	return p
}

// turned: the bytes with one bit turned.
func turned(p []byte, at int, bit byte) []byte {
	p = slices.Clone(p)
	p[at] ^= bit
	return p
}

var master = bytes.Repeat([]byte{7}, 32)

// config: a right configuration of the hop with two left, with noise.
func config() api.Config {
	return api.Config{Master: slices.Clone(master), Left: 2, Span: 3, Room: 300, Num: 2, Den: 3, Noise: 7, Chunks: 3, Workers: 3, Cap: 1, Shards: 2}
}

// sent: a cell that a hop with so many left peels in an epoch, number n.
func sent(left int, epoch int64, n int) []byte {
	nonce := [16]byte{15: byte(n), 14: byte(n >> 8), 3: 9}
	inner := fmt.Appendf(nil, "cell %d", n)
	return must(cell.Pad(must(onion.Wrap(must(route.Key(master, epoch)), nonce, left, inner))))
}

// cells: more than a batch's full number of cells of epoch 9 for the hop with two left, made once.
var cells = func() (list [][]byte) {
	for n := range 400 {
		list = append(list, sent(2, 9, n))
	}
	return list
}()

// tags: their replay tags, made once too.
var tags = func() (list [][16]byte) {
	key := must(route.Key(master, 9))
	for _, c := range cells {
		list = append(list, must(onion.Peel(key, 2, c)).Replay)
	}
	return list
}()

// header: that of a batch for the hop with two left.
func header(round, epoch int64) api.Header { return api.Header{Round: round, Epoch: epoch, Left: 2} }

func packed(h api.Header, list ...[]byte) []byte {
	return must(frame.Pack(api.Batch{Header: h, Cells: list}))
}

// held: a state at Next 5 and epoch 9 that holds the tags of the last so many of cells.
func held(n int) api.State {
	return api.State{Next: 5, Window: must(window.Add(api.Window{Newest: 9}, 9, tags[len(tags)-n:], api.MaxRoom))}
}

func sameState(a, b api.State) bool {
	return a.Next == b.Next && a.Window.Newest == b.Window.Newest && slices.EqualFunc(a.Window.Epochs, b.Window.Epochs, func(a, b api.Epoch) bool {
		return a.Number == b.Number && slices.Equal(a.Tags, b.Tags)
	})
}

func sameOutcome(a, b api.Outcome) bool {
	return bytes.Equal(a.Out, b.Out) && sameState(a.State, b.State) && a.Report == b.Report && a.Err == b.Err && a.At == b.At
}

// stateTold and told: a state and an outcome in short.
func stateTold(s api.State) string {
	return fmt.Sprintf("next %d, newest %d, %d tags", s.Next, s.Window.Newest, window.Len(s.Window))
}

func told(o api.Outcome) string {
	return fmt.Sprintf("error %d at %d, %+v, %d bytes, %s", o.Err, o.At, o.Report, len(o.Out), stateTold(o.State))
}

// copied: a state in other memory.
func copied(s api.State) api.State {
	s.Window.Epochs = slices.Clone(s.Window.Epochs)
	for i, e := range s.Window.Epochs {
		s.Window.Epochs[i].Tags = slices.Clone(e.Tags)
	}
	return s
}

// A model is a server by the chapter's words, over the round's definition alone.
type model struct {
	c   api.Config
	s   api.State
	put []byte
}

func (m *model) round(engine int, raw, tape []byte) api.Outcome {
	if engine < 0 || engine > 2 {
		return api.Outcome{State: m.s, Err: api.ErrArg}
	}
	o := round.Mix(m.c, m.s, raw, tape)
	if o.Err == api.OK {
		m.s = copied(o.State)
	}
	return o
}

func (m *model) finish(tape []byte) api.Outcome {
	raw := m.put
	m.put = nil
	return m.round(server.ByCrew, raw, tape)
}

// A pair is a server and the model of it, to which the same is done.
type pair struct {
	t *testing.T
	s *server.Server
	m *model
}

func newPair(t *testing.T, c api.Config, s api.State) *pair {
	t.Helper()
	made, e := server.Load(c, s)
	if e != api.OK || made == nil {
		t.Fatalf("Load: error %d", e)
	}
	return &pair{t, made, &model{c: c, s: copied(s)}}
}

// same: the outcome and the state behind it, held against the model's.
func (p *pair) same(what string, o, want api.Outcome) api.Outcome {
	p.t.Helper()
	if !sameOutcome(o, want) {
		p.t.Errorf("%s: %s; want %s", what, told(o), told(want))
	}
	p.sameState(what)
	return o
}

func (p *pair) sameState(what string) {
	p.t.Helper()
	if s := p.s.State(); !sameState(s, p.m.s) {
		p.t.Errorf("%s: the state is at %s; want %s", what, stateTold(s), stateTold(p.m.s))
	}
}

func (p *pair) round(engine int, raw, tape []byte, script ...int) api.Outcome {
	p.t.Helper()
	return p.same(fmt.Sprint("Round by ", engine), p.s.Round(engine, raw, tape, script), p.m.round(engine, raw, tape))
}

func (p *pair) put(pieces ...[]byte) {
	for _, piece := range pieces {
		p.s.Put(piece)
		p.m.put = append(p.m.put, piece...)
	}
}

func (p *pair) finish(tape []byte) api.Outcome {
	p.t.Helper()
	return p.same("Finish", p.s.Finish(tape), p.m.finish(tape))
}

// A lot draws batches, tapes, scripts and pieces, most often such as are taken.
type lot struct{ *rand.Rand }

func newLot(seed int64) lot { return lot{rand.New(rand.NewSource(seed))} }

// script: of any numbers, or none.
func (l lot) script() (list []int) {
	for range l.Intn(3) * l.Intn(60) {
		list = append(list, int(l.Uint64())>>l.Intn(64))
	}
	return list
}

// tape: most often long enough.
func (l lot) tape() []byte {
	if l.Intn(8) == 0 {
		return some(l.Intn(40), l.Int63())
	}
	return some(150+l.Intn(400), l.Int63())
}

// header: one about the state's.
func (l lot) header(s api.State) api.Header {
	h := header(s.Next+int64(l.Intn(3)), s.Window.Newest+int64(l.Intn(9)/7))
	switch l.Intn(14) {
	case 0:
		h.Round = max(0, s.Next-1)
	case 1:
		h.Epoch = max(0, h.Epoch-int64(l.Intn(4)))
	case 2:
		h.Left = 1 + l.Intn(3)
	case 3:
		h.Epoch += 1022 + int64(l.Intn(5))
	}
	return h
}

// cells: new ones, such as were sent before, and malformed ones.
func (l lot) cells(epoch int64) (list [][]byte) {
	for range l.Intn(8) {
		switch c := sent(2, epoch, l.Intn(40)); l.Intn(6) {
		case 0:
			list = append(list, turned(c, l.Intn(320), 1))
		case 1:
			list = append(list, c, c)
		default:
			list = append(list, c)
		}
	}
	return list
}

// batch: its bytes, now and then such as are none.
func (l lot) batch(s api.State) []byte {
	h := l.header(s)
	raw := packed(h, l.cells(h.Epoch)...)
	switch l.Intn(20) {
	case 0:
		return raw[:l.Intn(len(raw))]
	case 1:
		return turned(raw, l.Intn(len(raw)), 1<<l.Intn(8))
	case 2:
		return append(raw, some(1+l.Intn(9), l.Int63())...)
	}
	return raw
}

// pieces: the bytes cut anywhere, at most so many at one time; pieces of none among them.
func (l lot) pieces(raw []byte, most int) (list [][]byte) {
	for len(raw) > 0 {
		n := min(l.Intn(most+1), len(raw))
		list = append(list, raw[:n])
		raw = raw[n:]
	}
	return append(list, nil)
}

// engines: those that there are.
var engines = []int{server.ByMix, server.ByCrew, server.ByLine}

// noEngines: numbers that stand for none.
var noEngines = []int{-1, 3, -2, 4, 255, 256, 257, 258, 1 << 32, 1<<32 + 1, 1<<32 + 2, 1<<63 - 1, -1 << 63}
