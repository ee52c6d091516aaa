package talk_test

import (
	"bytes"
	"crypto/aes"
	"crypto/cipher"
	"crypto/hkdf"
	"crypto/hmac"
	"crypto/sha256"
	"encoding/binary"
	"fmt"
	"math/rand"
	"slices"
	"testing"

	"churn/api"
	"churn/frame"
	"churn/riffle"
	"churn/round"
	"churn/server"
	"churn/talk"
	"churn/window"
)

// The words of this chapter once more, with plain numbers: a layer's over the library's HKDF, HMAC and AES, and an answer's way back told from the client's end, not server by server.

const top = int64(1) << 62 // the greatest epoch

// sizes are those of onions with 1 to 8 hops left.
var sizes = [8]int{82, 116, 150, 184, 218, 252, 286, 320}

// must: the answer, where an error would be the test's own fault.
func must[T any](x T, e api.Errno) T {
	if e != api.OK {
		panic(e)
	}
	return x
}

// fewer: so many, or few of them where tests are to be short.
func fewer(n int) int {
	if testing.Short() {
		return n/8 + 1
	}
	return n
}

// paths: of how many servers a path may be, or few of these numbers where tests are to be short.
func paths() []int {
	if testing.Short() {
		return []int{1, 3, 8}
	}
	return []int{1, 2, 3, 4, 5, 6, 7, 8}
}

// some: so many bytes without a rule.
func some(n int, seed int64) []byte {
	p := make([]byte, n)
	rand.New(rand.NewSource(seed)).Read(p)
	return p
}

// loud: so many tapes of such a length, each of which tells as much noise as there can be.
func loud(n, length int, seed int64) (tapes [][]byte) {
	for i := range n {
		p := some(length, seed*100+int64(i))
		p[0], p[1] = 255, 255
		tapes = append(tapes, p)
	}
	return tapes
}

// quiet: so many tapes of such a length that tell no noise.
func quiet(n, length int, seed int64) [][]byte {
	tapes := loud(n, length, seed)
	for _, p := range tapes {
		p[0], p[1] = 0, 0
	}
	return tapes
}

// turned: the bytes with one of them turned into another one.
func turned(p []byte, at int, bits byte) []byte {
	p = slices.Clone(p)
	p[at] ^= bits
	return p
}

// cellOf: the bytes and noughts behind them.
func cellOf(p []byte) []byte { return append(slices.Clone(p), make([]byte, 320-len(p))...) }

var noughts = make([]byte, 320)

func onlyNoughts(p []byte) bool { return len(bytes.Trim(p, "\x00")) == 0 }

func master(hop int) []byte { return bytes.Repeat([]byte{byte(40 + hop)}, 32) }

func masters(hops int) (list [][]byte) {
	for i := range hops {
		list = append(list, master(i))
	}
	return list
}

// configs: right ones for so many hops, with noise.
func configs(hops int) (list []api.Config) {
	for i := range hops {
		list = append(list, api.Config{Master: master(i), Left: hops - i, Span: 2, Room: 400, Num: 1, Den: 1, Noise: 2, Chunks: 2, Workers: 3, Cap: 1, Shards: 2})
	}
	return list
}

// nonces: those of number k for so many hops.
func nonces(hops, k int) (list [][16]byte) {
	for i := range hops {
		list = append(list, [16]byte{byte(k), byte(k >> 8), 9, byte(i)})
	}
	return list
}

// packed: a batch's bytes.
func packed(h api.Header, cells ...[]byte) []byte {
	return must(frame.Pack(api.Batch{Header: h, Cells: cells}))
}

// entry: the bytes of a batch that comes to so many servers.
func entry(round, epoch int64, hops int, cells ...[]byte) []byte {
	return packed(api.Header{Round: round, Epoch: epoch, Left: hops}, cells...)
}

// read: the batch that the bytes are.
func read(raw []byte) api.Batch {
	b, _, e := frame.Read(raw)
	return must(b, e)
}

func derived(secret, salt []byte, info string, n int) []byte {
	p, err := hkdf.Key(sha256.New, secret, salt, info, n)
	if err != nil {
		panic(err)
	}
	return p
}

// hopKey: the key of an epoch.
func hopKey(master []byte, epoch int64) []byte {
	return derived(master, binary.BigEndian.AppendUint64(nil, uint64(epoch)), "churn hop", 32)
}

// backKey: the key under which a hop answers a cell with this nonce.
func backKey(master []byte, epoch int64, nonce [16]byte) []byte {
	return derived(hopKey(master, epoch), nonce[:], "churn back", 32)
}

// tagged: the first 16 bytes of the message's HMAC.
func tagged(key []byte, pieces ...[]byte) []byte {
	h := hmac.New(sha256.New, key)
	h.Write(slices.Concat(pieces...))
	return h.Sum(nil)[:16]
}

// masked: counter mode from a start of noughts on.
func masked(key, p []byte) []byte {
	b, err := aes.NewCipher(key)
	if err != nil {
		panic(err)
	}
	out := make([]byte, len(p))
	cipher.NewCTR(b, make([]byte, 16)).XORKeyStream(out, p)
	return out
}

// boxed: an onion under this very key, of a plain box that may be of no form at all, with the tag that fits.
func boxed(key []byte, nonce [16]byte, left int, plain []byte) []byte {
	keys := derived(key, nonce[:], "churn", 80)
	box := masked(keys[:16], plain)
	return slices.Concat(nonce[:], tagged(keys[16:48], []byte{byte(left)}, nonce[:], box), box)
}

// numbered: a plain box of an onion: the number n, p behind it, noughts.
func numbered(left, n int, p []byte) []byte {
	plain := slices.Concat([]byte{byte(n >> 8), byte(n)}, p)
	return append(plain, make([]byte, sizes[left-1]-32-len(plain))...)
}

// layer: one layer about what is inside, under this very key.
func layer(key []byte, nonce [16]byte, left int, inner []byte) []byte {
	return boxed(key, nonce, left, numbered(left, len(inner), inner))
}

// there: what is inside in the way there's layers of the first so many hops, as a cell.
func there(hops, layers int, epoch int64, nonces [][16]byte, inner []byte) []byte {
	for i := layers - 1; i >= 0; i-- {
		inner = layer(hopKey(master(i), epoch), nonces[i], hops-i, inner)
	}
	return cellOf(inner)
}

// comesBack: what is inside in the way back's layers of the first so many hops, as a cell.
func comesBack(hops, layers int, epoch int64, nonces [][16]byte, inner []byte) []byte {
	for i := layers - 1; i >= 0; i-- {
		inner = layer(backKey(master(i), epoch, nonces[i]), nonces[i], hops-i, inner)
	}
	return cellOf(inner)
}

// definedPeel: onion's words, in their order, for a key of 32 bytes and a left in range; told are the bytes that are inside, and the replay tag.
func definedPeel(key []byte, left int, c []byte) ([]byte, [16]byte, api.Errno) {
	switch {
	case len(c) != 320:
		return nil, [16]byte{}, 50
	case !onlyNoughts(c[sizes[left-1]:]):
		return nil, [16]byte{}, 51
	}
	nonce, tag, box := c[:16], c[16:32], c[32:sizes[left-1]]
	keys := derived(key, nonce, "churn", 80)
	if !bytes.Equal(tag, tagged(keys[16:48], []byte{byte(left)}, nonce, box)) {
		return nil, [16]byte{}, 70
	}
	plain := masked(keys[:16], box)
	n := 256*int(plain[0]) + int(plain[1])
	if n > sizes[left-1]-34 || !onlyNoughts(plain[2+n:]) {
		return nil, [16]byte{}, 71
	}
	return plain[2 : 2+n], [16]byte(tagged(keys[48:], c[:32])), 0
}

// definedChain: what is wrong with master keys, an epoch and nonces.
func definedChain(masters [][]byte, epoch int64, nonces [][16]byte) api.Errno {
	for _, m := range masters {
		if len(m) != 32 || epoch < 0 || epoch > top {
			return 2
		}
	}
	if len(masters) < 1 || len(masters) > 8 || len(nonces) != len(masters) {
		return 80
	}
	return 0
}

// A laid is what Ask answers.
type laid struct {
	Cell string
	Err  api.Errno
}

func ask(masters [][]byte, epoch int64, nonces [][16]byte, name, message string) laid {
	c, e := talk.Ask(masters, epoch, nonces, [8]byte([]byte(name)), []byte(message))
	return laid{string(c), e}
}

func definedAsk(masters [][]byte, epoch int64, nonces [][16]byte, name, message string) laid {
	if len(message) > 40 {
		return laid{Err: 1}
	}
	if e := definedChain(masters, epoch, nonces); e != 0 {
		return laid{Err: e}
	}
	inner := []byte(name + message)
	for i, m := range slices.Backward(masters) {
		inner = layer(hopKey(m, epoch), nonces[i], len(masters)-i, inner)
	}
	return laid{string(cellOf(inner)), 0}
}

// A heard is what Hear answers.
type heard struct {
	How     int
	Message string
	Err     api.Errno
}

func hear(masters [][]byte, epoch int64, nonces [][16]byte, c []byte) heard {
	how, message, e := talk.Hear(masters, epoch, nonces, c)
	return heard{how, string(message), e}
}

func definedHear(masters [][]byte, epoch int64, nonces [][16]byte, c []byte) heard {
	if e := definedChain(masters, epoch, nonces); e != 0 {
		return heard{Err: e}
	}
	var inner []byte
	for i, m := range masters {
		var e api.Errno
		inner, _, e = definedPeel(backKey(m, epoch, nonces[i]), len(masters)-i, c)
		if e != 0 {
			return heard{Err: e}
		}
		c = cellOf(inner)
	}
	return definedAnswer(inner)
}

// definedAnswer: one byte that tells how it came about, and 0 to 40 bytes behind a 1 alone.
func definedAnswer(payload []byte) heard {
	n := len(payload)
	if n > 1 && n <= 41 && payload[0] == 1 || n == 1 && payload[0] <= 3 {
		return heard{int(payload[0]), string(payload[1:]), 0}
	}
	return heard{Err: 280}
}

func isRequest(p string) bool { return len(p) >= 8 && len(p) <= 48 }

// definedExchange: for each place all other places are looked at.
func definedExchange(requests []string) (answers []string) {
	for i, r := range requests {
		var others []int
		for j, other := range requests {
			if j != i && isRequest(r) && isRequest(other) && other[:8] == r[:8] {
				others = append(others, j)
			}
		}
		switch {
		case !isRequest(r):
			answers = append(answers, "\x03")
		case len(others) == 0:
			answers = append(answers, "\x00")
		case len(others) == 1:
			answers = append(answers, "\x01"+requests[others[0]][8:])
		default:
			answers = append(answers, "\x02")
		}
	}
	return answers
}

// definedFresh: the places of the batch's fresh cells: of those that peel, the ones whose replay tag stands in no epoch that the window keeps, and with none ahead of them.
func definedFresh(c api.Config, s api.State, b api.Batch) (places []int) {
	newest := max(s.Window.Newest, b.Header.Epoch)
	ahead := map[[16]byte]int{}
	for _, e := range s.Window.Epochs {
		if e.Number > newest-int64(c.Span) {
			for _, tag := range e.Tags {
				ahead[tag]++
			}
		}
	}
	key := hopKey(c.Master, b.Header.Epoch)
	for j, x := range b.Cells {
		if _, tag, e := definedPeel(key, c.Left, x); e == 0 && ahead[tag] == 0 {
			places = append(places, j)
			ahead[tag]++
		}
	}
	return places
}

// A way is where a cell came from: its place in the batch that came to the first server, and the nonces that it has shown since. Noise has the place -1.
type way struct {
	place  int
	nonces [][16]byte
}

// followed: the ways of the cells that go out of a server, by those of the cells that came in.
func followed(c api.Config, s api.State, b api.Batch, tape []byte, ways []way, out int) (next []way) {
	fresh := definedFresh(c, s, b)
	for _, p := range must(riffle.Order(tape, out, c.Chunks)) {
		if p >= len(fresh) {
			next = append(next, way{place: -1})
			continue
		}
		j := fresh[p]
		next = append(next, way{ways[j].place, append(slices.Clone(ways[j].nonces), [16]byte(b.Cells[j][:16]))})
	}
	return next
}

// definedBack: the batch that comes back: at the place of each cell that came through to the end the answer in all its layers, noughts at all others.
func definedBack(cs []api.Config, in, out api.Batch, ways []way) []byte {
	var requests []string
	var from []way
	for k, x := range out.Cells {
		if x[0] == 1 {
			requests, from = append(requests, string(x[2:2+x[1]])), append(from, ways[k])
		}
	}
	cells := slices.Repeat([][]byte{noughts}, len(in.Cells))
	for k, answer := range definedExchange(requests) {
		inner := []byte(answer)
		for i, c := range slices.Backward(cs) {
			if from[k].place >= 0 {
				n := from[k].nonces[i]
				inner = layer(backKey(c.Master, in.Header.Epoch, n), n, len(cs)-i, inner)
				cells[from[k].place] = cellOf(inner)
			}
		}
	}
	return packed(in.Header, cells...)
}

// A model is a talk by these words, over the round's definition.
type model struct {
	cs     []api.Config
	states []api.State
}

func newModel(cs []api.Config) *model { return &model{cs, make([]api.State, len(cs))} }

func (m *model) round(engine int, raw []byte, tapes [][]byte) (list []api.Outcome, comes []byte) {
	var ways []way
	in := raw
	for i, c := range m.cs {
		var tape []byte
		if i < len(tapes) {
			tape = tapes[i]
		}
		o := api.Outcome{State: copied(m.states[i]), Err: 2}
		if engine >= 0 && engine <= 2 {
			o = round.Mix(c, m.states[i], in, tape)
		}
		list = append(list, o)
		if o.Err != 0 {
			return list, nil
		}
		b := read(in)
		if i == 0 {
			for j := range b.Cells {
				ways = append(ways, way{place: j})
			}
		}
		ways = followed(c, m.states[i], b, tape, ways, o.Report.Out)
		m.states[i], in = copied(o.State), o.Out
	}
	return list, definedBack(m.cs, read(raw), read(in), ways)
}

// A pair is a talk and the model of it, to which the same is done.
type pair struct {
	t *testing.T
	r *talk.Talk
	m *model
}

func newPair(t *testing.T, cs []api.Config) *pair {
	t.Helper()
	r, e := talk.New(cs)
	if e != api.OK || r == nil {
		t.Fatalf("New: error %d", e)
	}
	return &pair{t, r, newModel(cs)}
}

// round: what both answer, which must be the same.
func (p *pair) round(engine int, raw []byte, tapes [][]byte, script ...int) ([]api.Outcome, []byte) {
	p.t.Helper()
	got, comes := p.r.Round(engine, raw, tapes, script)
	want, wanted := p.m.round(engine, raw, tapes)
	if !sameOutcomes(got, want) {
		p.t.Errorf("Round by %d:%s\nwant:%s", engine, told(got), told(want))
	}
	if !bytes.Equal(comes, wanted) {
		p.t.Errorf("Round by %d: back come %s\nwant: %s%s", engine, inShort(comes), inShort(wanted), told(got))
	}
	return got, comes
}

// through: the cells that come back of a round that must not be refused.
func (p *pair) through(engine int, raw []byte, tapes [][]byte, script ...int) [][]byte {
	p.t.Helper()
	list, comes := p.round(engine, raw, tapes, script...)
	if !slices.Equal(errs(list), make([]api.Errno, len(p.m.cs))) {
		p.t.Fatalf("Round by %d:%s", engine, told(list))
	}
	b := read(comes)
	in := read(raw)
	if b.Header != in.Header || len(b.Cells) != len(in.Cells) {
		p.t.Errorf("Round by %d: back come %d cells with %+v; there went %d with %+v", engine, len(b.Cells), b.Header, len(in.Cells), in.Header)
	}
	return b.Cells
}

// refused: the outcomes of a round that server number i must refuse, with this error.
func (p *pair) refused(engine int, raw []byte, tapes [][]byte, i int, e api.Errno) []api.Outcome {
	p.t.Helper()
	list, comes := p.round(engine, raw, tapes)
	if want := append(make([]api.Errno, i), e); !slices.Equal(errs(list), want) || len(comes) != 0 {
		p.t.Errorf("Round by %d: %d bytes back; want none, and the errors %d%s", engine, len(comes), want, told(list))
	}
	return list
}

func copied(s api.State) api.State {
	s.Window.Epochs = slices.Clone(s.Window.Epochs)
	for i, e := range s.Window.Epochs {
		s.Window.Epochs[i].Tags = slices.Clone(e.Tags)
	}
	return s
}

func copiedAll(list []api.Outcome) (copies []api.Outcome) {
	for _, o := range list {
		o.Out, o.State = slices.Clone(o.Out), copied(o.State)
		copies = append(copies, o)
	}
	return copies
}

func sameState(a, b api.State) bool {
	return a.Next == b.Next && a.Window.Newest == b.Window.Newest && slices.EqualFunc(a.Window.Epochs, b.Window.Epochs, func(a, b api.Epoch) bool {
		return a.Number == b.Number && slices.Equal(a.Tags, b.Tags)
	})
}

func sameOutcome(a, b api.Outcome) bool {
	return bytes.Equal(a.Out, b.Out) && sameState(a.State, b.State) && a.Report == b.Report && a.Err == b.Err && a.At == b.At
}

func sameOutcomes(a, b []api.Outcome) bool { return slices.EqualFunc(a, b, sameOutcome) }

// told: outcomes in short.
func told(list []api.Outcome) (text string) {
	for i, o := range list {
		text += fmt.Sprintf("\n\tserver %d: error %d at %d, %+v, %d bytes, next %d, newest %d, %d tags", i, o.Err, o.At, o.Report, len(o.Out), o.State.Next, o.State.Window.Newest, window.Len(o.State.Window))
	}
	return text
}

// inShort: a batch's bytes: its header, and how each of its cells begins.
func inShort(raw []byte) string {
	b, at, e := frame.Read(raw)
	if e != api.OK {
		return fmt.Sprintf("%d bytes, error %d at %d", len(raw), e, at)
	}
	text := fmt.Sprintf("%+v:", b.Header)
	for _, c := range b.Cells[:min(12, len(b.Cells))] {
		text += fmt.Sprintf(" %.6x", c)
	}
	return text
}

// errs: the outcomes' errors.
func errs(list []api.Outcome) (all []api.Errno) {
	for _, o := range list {
		all = append(all, o.Err)
	}
	return all
}

// reports: the outcomes' reports.
func reports(list []api.Outcome) (all []api.Report) {
	for _, o := range list {
		all = append(all, o.Report)
	}
	return all
}

// A client is who asks: a number that tells the nonces, a drop and a message.
type client struct {
	k             int
	name, message string
}

// cell: what the client puts into the batch.
func (c client) cell(hops int, epoch int64) []byte {
	return []byte(c.laid(hops, epoch).Cell)
}

func (c client) laid(hops int, epoch int64) laid {
	l := ask(masters(hops), epoch, nonces(hops, c.k), c.name, c.message)
	if l.Err != api.OK {
		panic(l.Err)
	}
	return l
}

// cells: what these clients put into the batch.
func cells(hops int, epoch int64, all ...client) (list [][]byte) {
	for _, c := range all {
		list = append(list, c.cell(hops, epoch))
	}
	return list
}

// hears: the client finds this in the cell that came back to it.
func (c client) hears(t *testing.T, hops int, epoch int64, x []byte, how int, message string) {
	t.Helper()
	want := heard{how, message, 0}
	if got := hear(masters(hops), epoch, nonces(hops, c.k), x); got != want {
		t.Errorf("client %d at %s behind %d hops hears %+v; want %+v", c.k, c.name, hops, got, want)
	}
}

// blank: at this place nothing comes back.
func blank(t *testing.T, what string, x []byte) {
	t.Helper()
	if !bytes.Equal(x, noughts) {
		t.Errorf("%s: back comes %.16x", what, x)
	}
}

// engines: those that there are.
var engines = []int{server.ByMix, server.ByCrew, server.ByLine}

// noEngines: numbers that stand for none.
var noEngines = []int{-1, 3, -2, 4, 256, 257, 258, 1 << 32, 1<<32 + 1, 1<<63 - 1, -1 << 63}
