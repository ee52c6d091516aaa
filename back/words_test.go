package back_test

import (
	"bytes"
	"crypto/aes"
	"crypto/cipher"
	"crypto/hkdf"
	"crypto/hmac"
	"crypto/sha256"
	"encoding/binary"
	"fmt"
	"math/rand"
	"slices"
	"testing"

	"churn/api"
	"churn/back"
	"churn/cell"
	"churn/frame"
	"churn/onion"
	"churn/riffle"
	"churn/round"
	"churn/route"
)

// The words of this chapter once more, with plain numbers; a layer's over the library's HKDF, HMAC and AES.

const top = int64(1) << 62 // the greatest epoch

// sizes are those of onions with 1 to 8 hops left.
var sizes = [8]int{82, 116, 150, 184, 218, 252, 286, 320}

// config: a right configuration of the hop with so many left, with noise and three chunks.
func config(left int) api.Config {
	return api.Config{Master: bytes.Repeat([]byte{7}, 32), Left: left, Span: 3, Room: 600, Num: 2, Den: 3, Noise: 4, Chunks: 3, Workers: 2, Cap: 1, Shards: 2}
}

// quiet: one without noise, whose shuffle has one chunk.
func quiet(left int) api.Config {
	c := config(left)
	c.Num, c.Noise, c.Chunks = 0, 0, 1
	return c
}

// some: so many bytes without a rule.
func some(n int, seed int64) []byte {
	p := make([]byte, n)
	rand.New(rand.NewSource(seed)).Read(p)
	return p
}

// loud: a tape of so many bytes that tells as many noise cells as there can be.
func loud(n int, seed int64) []byte {
	p := some(n, seed)
	p[0], p[1] = 255, 255
	return p
}

// must: the answer, where an error would be the test's own fault.
func must[T any](x T, e api.Errno) T {
	if e != api.OK {
		panic(e)
	}
	return x
}

// fewer: n, or a part of it where time is short.
func fewer(n int) int {
	if testing.Short() {
		return n/8 + 1
	}
	return n
}

// with: a copy of the bytes with another one at a place.
func with(p []byte, at int, b byte) []byte {
	p = bytes.Clone(p)
	p[at] = b
	return p
}

// turned: the bytes with one bit turned.
func turned(p []byte, at int, bit byte) []byte { return with(p, at, p[at]^bit) }

// cellOf: the pieces and noughts behind them.
func cellOf(pieces ...[]byte) []byte {
	p := slices.Concat(pieces...)
	return append(p, make([]byte, 320-len(p))...)
}

var noughts = make([]byte, 320)

func onlyNoughts(p []byte) bool { return len(bytes.Trim(p, "\x00")) == 0 }

func header(round, epoch int64, left int) api.Header {
	return api.Header{Round: round, Epoch: epoch, Left: left}
}

// packed: a batch's bytes.
func packed(h api.Header, cells ...[]byte) []byte {
	return must(frame.Pack(api.Batch{Header: h, Cells: cells}))
}

// read: the batch that the bytes are.
func read(raw []byte) api.Batch {
	b, _, e := frame.Read(raw)
	return must(b, e)
}

// nonce: sixteen bytes that tell a number.
func nonce(n int) [16]byte { return [16]byte{15: byte(n), 14: byte(n >> 8), 3: 9} }

// wrappedBy: a cell that the hop peels in this epoch, with this nonce and this inside.
func wrappedBy(c api.Config, epoch int64, n [16]byte, inner string) []byte {
	key := must(route.Key(c.Master, epoch))
	return must(cell.Pad(must(onion.Wrap(key, n, c.Left, []byte(inner)))))
}

// sent: such a cell, number n.
func sent(c api.Config, epoch int64, n int) []byte {
	return wrappedBy(c, epoch, nonce(n), fmt.Sprint("cell ", n))
}

// sentAll: the cells number first to last.
func sentAll(c api.Config, epoch int64, first, last int) (cells [][]byte) {
	for n := first; n <= last; n++ {
		cells = append(cells, sent(c, epoch, n))
	}
	return cells
}

// peels: whether the hop takes a cell, and what it peels to.
func peels(c api.Config, epoch int64, x []byte) (api.Peeled, bool) {
	p, e := onion.Peel(derived(c.Master, binary.BigEndian.AppendUint64(nil, uint64(epoch)), "churn hop", 32), c.Left, x)
	return p, e == api.OK
}

func derived(secret, salt []byte, info string, n int) []byte {
	p, err := hkdf.Key(sha256.New, secret, salt, info, n)
	if err != nil {
		panic(err)
	}
	return p
}

// masked: counter mode from a start of noughts on.
func masked(key, p []byte) []byte {
	b, err := aes.NewCipher(key)
	if err != nil {
		panic(err)
	}
	out := make([]byte, len(p))
	cipher.NewCTR(b, make([]byte, 16)).XORKeyStream(out, p)
	return out
}

// backOf: the key under which the hop with this master key wraps the answer to a cell with this nonce.
func backOf(master []byte, epoch int64, n [16]byte) []byte {
	hop := derived(master, binary.BigEndian.AppendUint64(nil, uint64(epoch)), "churn hop", 32)
	return derived(hop, n[:], "churn back", 32)
}

// layer: the cell of an answer with what is inside it.
func layer(master []byte, epoch int64, n [16]byte, left int, inner []byte) []byte {
	keys := derived(backOf(master, epoch, n), n[:], "churn", 80)
	plain := make([]byte, sizes[left-1]-32)
	plain[1] = byte(len(inner))
	plain[0] = byte(len(inner) >> 8)
	copy(plain[2:], inner)
	box := masked(keys[:16], plain)
	h := hmac.New(sha256.New, keys[16:48])
	h.Write(slices.Concat([]byte{byte(left)}, n[:], box))
	return cellOf(n[:], h.Sum(nil)[:16], box)
}

// definedInside: what is inside an answer's cell of 320 bytes; false, if it is none.
func definedInside(x []byte, left int) ([]byte, bool) {
	if left == 1 {
		n := int(x[1])
		if x[0] != 1 || n > 48 || !onlyNoughts(x[2+n:]) {
			return nil, false
		}
		return x[2 : 2+n], true
	}
	n := sizes[left-2]
	return x[:n], !onlyNoughts(x[:n]) && onlyNoughts(x[n:])
}

// definedConfig: chapter 21's words of a right configuration.
func definedConfig(c api.Config) bool {
	wrong := 0
	for _, word := range []struct{ n, from, to int }{
		{len(c.Master), 32, 32}, {c.Left, 1, 8}, {c.Span, 1, 8}, {c.Room, 0, 4096}, {c.Den, 1, 1000}, {c.Num, 0, c.Den},
		{c.Noise, 0, 16}, {c.Chunks, 1, 64}, {c.Workers, 1, 64}, {c.Cap, 0, 1024}, {c.Shards, 1, 64},
	} {
		if word.n < word.from || word.n > word.to {
			wrong++
		}
	}
	return wrong == 0
}

// definedCheck: the words of a right memory, one by one.
func definedCheck(m api.Memory) api.Errno {
	h := m.Header
	if m.Count < 0 || m.Count > 256 || len(m.From) > 256 || len(m.Nonces) != m.Count {
		return 290
	}
	if h.Left < 0 || h.Left > 7 || h.Round < 0 || h.Round > top-1 || h.Epoch < 0 || h.Epoch > top {
		return 290
	}
	for i, j := range m.From {
		if j < -1 || j > m.Count-1 || j >= 0 && slices.Contains(m.From[:i], j) {
			return 290
		}
	}
	return 0
}

// A gone is what Return answers.
type gone struct {
	Raw []byte
	At  int
	Err api.Errno
}

func (a gone) same(b gone) bool { return bytes.Equal(a.Raw, b.Raw) && a.At == b.At && a.Err == b.Err }

func (a gone) String() string {
	return fmt.Sprintf("%d bytes %.24x, place %d, error %d", len(a.Raw), a.Raw, a.At, a.Err)
}

func goBack(c api.Config, m api.Memory, raw []byte) gone {
	out, at, e := back.Return(c, m, raw)
	return gone{out, at, e}
}

// definedReturn: the words of Return, in their order, and then place by place.
func definedReturn(c api.Config, m api.Memory, raw []byte) gone {
	if !definedConfig(c) {
		return gone{Err: 210}
	}
	if definedCheck(m) != 0 || m.Header.Left+1 != c.Left {
		return gone{Err: 290}
	}
	b, at, e := frame.Read(raw)
	switch {
	case e != api.OK:
		return gone{At: at, Err: e}
	case b.Header.Left != m.Header.Left:
		return gone{Err: 212}
	case b.Header.Round != m.Header.Round:
		return gone{Err: 211}
	case b.Header.Epoch != m.Header.Epoch:
		return gone{Err: 161}
	case len(b.Cells) != len(m.From):
		return gone{Err: 63}
	}
	var cells [][]byte
	for j := range m.Count {
		x := noughts
		if i := slices.Index(m.From, j); i >= 0 {
			if inner, is := definedInside(b.Cells[i], c.Left); is {
				x = layer(c.Master, m.Header.Epoch, m.Nonces[j], c.Left, inner)
			}
		}
		cells = append(cells, x)
	}
	return gone{Raw: packed(header(m.Header.Round, m.Header.Epoch, c.Left), cells...)}
}

// checkReturn: Return, held against the words.
func checkReturn(t *testing.T, what string, c api.Config, m api.Memory, raw []byte) gone {
	t.Helper()
	got, want := goBack(c, m, raw), definedReturn(c, m, raw)
	if !got.same(want) {
		t.Errorf("%s: Return is %v; want %v", what, got, want)
	}
	return got
}

// refuses: Return refuses with this error and this place, and so do the words.
func refuses(t *testing.T, what string, c api.Config, m api.Memory, raw []byte, at int, e api.Errno) {
	t.Helper()
	if got := checkReturn(t, what, c, m, raw); !got.same(gone{At: at, Err: e}) {
		t.Errorf("%s: Return is %v; want error %d at %d", what, got, e, at)
	}
}

// returns: the cells of what Return answers, which must be taken, with the header that the chapter tells.
func returns(t *testing.T, what string, c api.Config, m api.Memory, raw []byte) [][]byte {
	t.Helper()
	got := checkReturn(t, what, c, m, raw)
	if got.Err != api.OK || got.At != 0 {
		t.Fatalf("%s: Return is %v", what, got)
	}
	b := read(got.Raw)
	if b.Header != header(m.Header.Round, m.Header.Epoch, c.Left) || len(b.Cells) != m.Count {
		t.Errorf("%s: what goes back has the header %+v and %d cells; the memory is %s", what, b.Header, len(b.Cells), tell(m))
	}
	return b.Cells
}

// definedFresh: the places of the batch's fresh cells: of those that peel, the ones whose replay tag stands in no epoch that the window keeps, and with none ahead of them.
func definedFresh(c api.Config, s api.State, b api.Batch) (places []int) {
	newest := max(s.Window.Newest, b.Header.Epoch)
	var ahead [][16]byte
	for _, e := range s.Window.Epochs {
		if e.Number > newest-int64(c.Span) {
			ahead = append(ahead, e.Tags...)
		}
	}
	for j, x := range b.Cells {
		p, is := peels(c, b.Header.Epoch, x)
		if is && !slices.Contains(ahead, p.Replay) {
			places = append(places, j)
			ahead = append(ahead, p.Replay)
		}
	}
	return places
}

// definedMemory: the words of what is kept of a round with this outcome.
func definedMemory(c api.Config, s api.State, raw, tape []byte, o api.Outcome) api.Memory {
	if o.Err != api.OK {
		return api.Memory{}
	}
	b, out := read(raw), read(o.Out)
	m := api.Memory{Header: out.Header, Count: len(b.Cells), Nonces: make([][16]byte, len(b.Cells))}
	fresh := definedFresh(c, s, b)
	for _, p := range must(riffle.Order(tape, len(out.Cells), c.Chunks)) {
		if p < len(fresh) {
			m.From = append(m.From, fresh[p])
		} else {
			m.From = append(m.From, -1)
		}
	}
	for _, j := range fresh {
		copy(m.Nonces[j][:], b.Cells[j])
	}
	return m
}

func sameMemory(a, b api.Memory) bool {
	return a.Header == b.Header && a.Count == b.Count && slices.Equal(a.From, b.From) && slices.Equal(a.Nonces, b.Nonces)
}

// tell: a memory in short.
func tell(m api.Memory) string {
	s := fmt.Sprintf("%+v, count %d, from %.20v, %d nonces:", m.Header, m.Count, m.From, len(m.Nonces))
	for _, n := range m.Nonces[:min(5, len(m.Nonces))] {
		s += fmt.Sprintf(" %x", n)
	}
	return s
}

func sameEpoch(a, b api.Epoch) bool { return a.Number == b.Number && slices.Equal(a.Tags, b.Tags) }

func sameState(a, b api.State) bool {
	return a.Next == b.Next && a.Window.Newest == b.Window.Newest && slices.EqualFunc(a.Window.Epochs, b.Window.Epochs, sameEpoch)
}

func sameOutcome(a, b api.Outcome) bool {
	return bytes.Equal(a.Out, b.Out) && sameState(a.State, b.State) && a.Report == b.Report && a.Err == b.Err && a.At == b.At
}

// told: an outcome in short.
func told(o api.Outcome) string {
	return fmt.Sprintf("error %d at %d, %+v, %d bytes, next %d, newest %d", o.Err, o.At, o.Report, len(o.Out), o.State.Next, o.State.Window.Newest)
}

// checkForward: Forward, held against round.Mix and the words.
func checkForward(t *testing.T, what string, c api.Config, s api.State, raw, tape []byte) (api.Outcome, api.Memory) {
	t.Helper()
	o, m := back.Forward(c, s, raw, tape)
	if want := round.Mix(c, s, raw, tape); !sameOutcome(o, want) {
		t.Errorf("%s: the outcome is %s; want %s", what, told(o), told(want))
	}
	if want := definedMemory(c, s, raw, tape, o); !sameMemory(m, want) {
		t.Errorf("%s: the memory is %s; want %s", what, tell(m), tell(want))
	}
	return o, m
}

// goesThrough: the outcome and the memory of a round that isn't refused.
func goesThrough(t *testing.T, what string, c api.Config, s api.State, raw, tape []byte) (api.Outcome, api.Memory) {
	t.Helper()
	o, m := checkForward(t, what, c, s, raw, tape)
	if o.Err != api.OK {
		t.Fatalf("%s: %s", what, told(o))
	}
	return o, m
}

// refused: beside this error the memory is zero.
func refused(t *testing.T, what string, c api.Config, s api.State, raw, tape []byte, e api.Errno, at int) {
	t.Helper()
	o, m := checkForward(t, what, c, s, raw, tape)
	if o.Err != e || o.At != at || !sameMemory(m, api.Memory{}) {
		t.Errorf("%s: %s; want error %d at %d; the memory is %s", what, told(o), e, at, tell(m))
	}
}

// checks: Check's answer, held against what is wanted and against the words.
func checks(t *testing.T, what string, m api.Memory, want api.Errno) {
	t.Helper()
	if got, words := back.Check(m), definedCheck(m); got != want || words != want {
		t.Errorf("%s: Check = %d, by the words %d; want %d; the memory is %s", what, got, words, want, tell(m))
	}
}
