package cascade_test

import (
	"bytes"
	"fmt"
	"math/rand"
	"slices"
	"testing"

	"churn/api"
	"churn/cascade"
	"churn/cell"
	"churn/frame"
	"churn/onion"
	"churn/round"
	"churn/route"
	"churn/server"
	"churn/window"
)

// must: the answer, where an error would be the test's own fault.
func must[T any](x T, e api.Errno) T {
	if e != api.OK {
		panic(e)
	}
	return x
}

// fewer: so many, or few of them where tests are to be short.
func fewer(n int) int {
	if testing.Short() {
		return n/8 + 1
	}
	return n
}

// some: so many bytes without a rule.
func some(n int, seed int64) []byte {
	p := make([]byte, n)
	rand.New(rand.NewSource(seed)).Read(p)
	return p
}

// loud: so many tapes of such a length, each of which tells as much noise as there can be.
func loud(n, length int, seed int64) (tapes [][]byte) {
	for i := range n {
		p := some(length, seed*100+int64(i))
		p[0], p[1] = 255, 255
		tapes = append(tapes, p)
	}
	return tapes
}

// quiet: so many tapes of such a length that tell no noise.
func quiet(n, length int, seed int64) [][]byte {
	tapes := loud(n, length, seed)
	for _, p := range tapes {
		p[0], p[1] = 0, 0
	}
	return tapes
}

// turned: the bytes with one of them turned into another one.
func turned(p []byte, at int, bits byte) []byte {
	p = slices.Clone(p)
	p[at] ^= bits
	return p
}

func master(hop int) []byte { return bytes.Repeat([]byte{byte(40 + hop)}, 32) }

func masters(hops int) (list [][]byte) {
	for i := range hops {
		list = append(list, master(i))
	}
	return list
}

// configs: right ones for so many hops, with noise.
func configs(hops int) (list []api.Config) {
	for i := range hops {
		list = append(list, api.Config{Master: master(i), Left: hops - i, Span: 2, Room: 400, Num: 1, Den: 1, Noise: 2, Chunks: 2, Workers: 3, Cap: 1, Shards: 2})
	}
	return list
}

// nonces: those of client number k for so many hops.
func nonces(hops, k int) (list [][16]byte) {
	for i := range hops {
		list = append(list, [16]byte{byte(k), byte(k >> 8), 9, byte(i)})
	}
	return list
}

// payload: that of client number k.
func payload(k int) []byte { return fmt.Appendf(nil, "payload %d", k) }

// sent: the cell of client number k for so many hops.
func sent(hops int, epoch int64, k int) []byte {
	return must(cascade.Submit(masters(hops), epoch, nonces(hops, k), payload(k)))
}

// sentAll: the cells of the clients from one number on up to another.
func sentAll(hops int, epoch int64, from, to int) (list [][]byte) {
	for k := from; k < to; k++ {
		list = append(list, sent(hops, epoch, k))
	}
	return list
}

// about: a cell of client number k for so many hops, of which the first so many layers alone are right; inside these are any bytes.
func about(hops, layers int, epoch int64, k int, inner []byte) []byte {
	for i := layers - 1; i >= 0; i-- {
		inner = must(onion.Wrap(must(route.Key(master(i), epoch)), nonces(hops, k)[i], hops-i, inner))
	}
	return must(cell.Pad(inner))
}

// inside: what is left of client number k's cell when the first so many hops have peeled it.
func inside(hops, layers int, epoch int64, k int) []byte {
	var keys [][]byte
	for i := layers; i < hops; i++ {
		keys = append(keys, must(route.Key(master(i), epoch)))
	}
	return must(cell.Cut(must(route.Wrap(keys, nonces(hops, k)[layers:], payload(k))), onion.Size(hops-layers)))
}

func entry(round, epoch int64, left int, cells ...[]byte) []byte {
	return must(cascade.Entry(round, epoch, left, cells))
}

func packed(h api.Header, cells ...[]byte) []byte {
	return must(frame.Pack(api.Batch{Header: h, Cells: cells}))
}

func copied(s api.State) api.State {
	s.Window.Epochs = slices.Clone(s.Window.Epochs)
	for i, e := range s.Window.Epochs {
		s.Window.Epochs[i].Tags = slices.Clone(e.Tags)
	}
	return s
}

func copiedAll(list []api.Outcome) (copies []api.Outcome) {
	for _, o := range list {
		o.Out, o.State = slices.Clone(o.Out), copied(o.State)
		copies = append(copies, o)
	}
	return copies
}

func sameState(a, b api.State) bool {
	return a.Next == b.Next && a.Window.Newest == b.Window.Newest && slices.EqualFunc(a.Window.Epochs, b.Window.Epochs, func(a, b api.Epoch) bool {
		return a.Number == b.Number && slices.Equal(a.Tags, b.Tags)
	})
}

func sameOutcome(a, b api.Outcome) bool {
	return bytes.Equal(a.Out, b.Out) && sameState(a.State, b.State) && a.Report == b.Report && a.Err == b.Err && a.At == b.At
}

func sameOutcomes(a, b []api.Outcome) bool { return slices.EqualFunc(a, b, sameOutcome) }

// sameOuts: whether at every server the same bytes go out, or the same error comes.
func sameOuts(a, b []api.Outcome) bool {
	return slices.EqualFunc(a, b, func(a, b api.Outcome) bool { return bytes.Equal(a.Out, b.Out) && a.Err == b.Err })
}

// told: outcomes in short.
func told(list []api.Outcome) (text string) {
	for i, o := range list {
		text += fmt.Sprintf("\n\tserver %d: error %d at %d, %+v, %d bytes, next %d, newest %d, %d tags", i, o.Err, o.At, o.Report, len(o.Out), o.State.Next, o.State.Window.Newest, window.Len(o.State.Window))
	}
	return text
}

// reports: the outcomes' reports.
func reports(list []api.Outcome) (all []api.Report) {
	for _, o := range list {
		all = append(all, o.Report)
	}
	return all
}

// errs: the outcomes' errors.
func errs(list []api.Outcome) (all []api.Errno) {
	for _, o := range list {
		all = append(all, o.Err)
	}
	return all
}

// through: whether there is an outcome of each of so many servers, none of them refused.
func through(list []api.Outcome, hops int) bool {
	return slices.Equal(errs(list), make([]api.Errno, hops))
}

// sorted: payloads as texts, in an order that hangs on no tape.
func sorted(list [][]byte) (texts []string) {
	for _, p := range list {
		texts = append(texts, string(p))
	}
	slices.Sort(texts)
	return texts
}

// out: the payloads in the last of these outcomes.
func out(t *testing.T, list []api.Outcome) []string {
	t.Helper()
	if len(list) == 0 {
		t.Fatal("no outcomes")
	}
	payloads, e := cascade.Payloads(list[len(list)-1].Out)
	if e != api.OK {
		t.Fatalf("Payloads: error %d", e)
	}
	return sorted(payloads)
}

// expected: the payloads of these clients, as out tells them.
func expected(clients ...int) (texts []string) {
	for _, k := range clients {
		texts = append(texts, string(payload(k)))
	}
	slices.Sort(texts)
	return texts
}

// A model is a cascade by the chapter's words, over the round's definition alone.
type model struct {
	cs     []api.Config
	states []api.State
}

func (m *model) round(engine int, raw []byte, tapes [][]byte) (list []api.Outcome) {
	for i, c := range m.cs {
		var tape []byte
		if i < len(tapes) {
			tape = tapes[i]
		}
		o := api.Outcome{State: copied(m.states[i]), Err: api.ErrArg}
		if engine >= 0 && engine <= 2 {
			o = round.Mix(c, m.states[i], raw, tape)
		}
		list = append(list, o)
		if o.Err != api.OK {
			return list
		}
		m.states[i], raw = copied(o.State), o.Out
	}
	return list
}

// A pair is a cascade and the model of it, to which the same is done.
type pair struct {
	t *testing.T
	c *cascade.Cascade
	m *model
}

func newPair(t *testing.T, cs []api.Config) *pair {
	t.Helper()
	c, e := cascade.New(cs)
	if e != api.OK || c == nil {
		t.Fatalf("New: error %d", e)
	}
	return &pair{t, c, &model{cs, make([]api.State, len(cs))}}
}

func (p *pair) round(engine int, raw []byte, tapes [][]byte, script ...int) []api.Outcome {
	p.t.Helper()
	got, want := p.c.Round(engine, raw, tapes, script), p.m.round(engine, raw, tapes)
	if !sameOutcomes(got, want) {
		p.t.Errorf("Round by %d:%s\nwant:%s", engine, told(got), told(want))
	}
	return got
}

// engines: those that there are.
var engines = []int{server.ByMix, server.ByCrew, server.ByLine}

// noEngines: numbers that stand for none.
var noEngines = []int{-1, 3, -2, 4, 256, 257, 258, 1 << 32, 1<<32 + 1, 1<<63 - 1, -1 << 63}

// A lot draws batches, tapes and scripts, most often such as are taken.
type lot struct{ *rand.Rand }

func newLot(seed int64) lot { return lot{rand.New(rand.NewSource(seed))} }

// script: of any numbers, or none.
func (l lot) script() (list []int) {
	for range l.Intn(3) * l.Intn(60) {
		list = append(list, int(l.Uint64())>>l.Intn(64))
	}
	return list
}

// tapes: most often one for each server, all long enough; else too few, too many, or a short one among them.
func (l lot) tapes(hops int) (list [][]byte) {
	n := hops
	switch l.Intn(10) {
	case 0:
		n = l.Intn(hops)
	case 1:
		n += 1 + l.Intn(3)
	}
	for range n {
		length := 150 + l.Intn(300)
		if l.Intn(25) == 0 {
			length = l.Intn(40)
		}
		list = append(list, some(length, l.Int63()))
	}
	return list
}

// cells: of clients that are new and such as were there before; some twice, some malformed at one of the servers, some that are alike from one of the servers on.
func (l lot) cells(hops int, epoch int64) (list [][]byte) {
	for range l.Intn(7) {
		k, hop := l.Intn(60), l.Intn(hops)
		switch c := sent(hops, epoch, k); l.Intn(8) {
		case 0:
			list = append(list, turned(c, l.Intn(320), 1))
		case 1:
			list = append(list, c, c)
		case 2:
			list = append(list, about(hops, hop, epoch, 100+k, some(50, l.Int63())))
		case 3:
			list = append(list, about(hops, hop, epoch, 200+k, inside(hops, hop, epoch, k)))
		default:
			list = append(list, c)
		}
	}
	return list
}

// header: one that the first server most often takes.
func (l lot) header(hops int, s api.State) api.Header {
	h := api.Header{Round: s.Next + int64(l.Intn(3)), Epoch: s.Window.Newest + int64(l.Intn(7)/6), Left: hops}
	switch l.Intn(14) {
	case 0:
		h.Round = max(0, s.Next-1)
	case 1:
		h.Epoch = max(0, h.Epoch-int64(l.Intn(4)))
	case 2:
		h.Left = l.Intn(9)
	}
	return h
}

// batch: its bytes, now and then such as are none.
func (l lot) batch(hops int, s api.State) []byte {
	h := l.header(hops, s)
	raw := packed(h, l.cells(hops, h.Epoch)...)
	switch l.Intn(24) {
	case 0:
		return raw[:l.Intn(len(raw))]
	case 1:
		return turned(raw, l.Intn(len(raw)), 1<<l.Intn(8))
	case 2:
		return append(raw, some(1+l.Intn(9), l.Int63())...)
	}
	return raw
}
