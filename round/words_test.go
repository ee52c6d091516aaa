package round_test

import (
	"bytes"
	"fmt"
	"math/rand"
	"slices"
	"testing"

	"churn/api"
	"churn/cell"
	"churn/frame"
	"churn/noise"
	"churn/onion"
	"churn/riffle"
	"churn/round"
	"churn/route"
	"churn/tape"
	"churn/window"
)

const top = int64(1) << 62 // the greatest epoch, and the greatest Next

// config: a right configuration of the hop with so many left, with noise, and with room for a few batches.
func config(left int) api.Config {
	return api.Config{Master: bytes.Repeat([]byte{7}, 32), Left: left, Span: 3, Room: 600, Num: 2, Den: 3, Noise: 4, Chunks: 3, Workers: 2, Cap: 1, Shards: 2}
}

// quiet: one without noise, whose shuffle has one chunk.
func quiet(left int) api.Config {
	c := config(left)
	c.Num, c.Noise, c.Chunks = 0, 0, 1
	return c
}

// some: so many bytes without a rule.
func some(n int, seed int64) []byte {
	p := make([]byte, n)
	rand.New(rand.NewSource(seed)).Read(p)
	return p
}

// must: the answer, where an error would be the test's own fault.
func must[T any](x T, e api.Errno) T {
	if e != api.OK {
		panic(e)
	}
	return x
}

// nonce: sixteen bytes that tell a number.
func nonce(n int) [16]byte { return [16]byte{15: byte(n), 14: byte(n >> 8), 3: 9} }

// sent: a cell that the hop peels in this epoch, number n.
func sent(c api.Config, epoch int64, n int) []byte {
	key := must(route.Key(c.Master, epoch))
	return must(cell.Pad(must(onion.Wrap(key, nonce(n), c.Left, fmt.Append(nil, "cell ", n)))))
}

// sentAll: the cells number first to last.
func sentAll(c api.Config, epoch int64, first, last int) (cells [][]byte) {
	for n := first; n <= last; n++ {
		cells = append(cells, sent(c, epoch, n))
	}
	return cells
}

// peeledOf: what the hop makes of such a cell.
func peeledOf(c api.Config, epoch int64, n int) api.Peeled {
	return must(onion.Peel(must(route.Key(c.Master, epoch)), c.Left, sent(c, epoch, n)))
}

// tagsOf: the replay tags of the cells number first to last.
func tagsOf(c api.Config, epoch int64, first, last int) (tags [][16]byte) {
	for n := first; n <= last; n++ {
		tags = append(tags, peeledOf(c, epoch, n).Replay)
	}
	return tags
}

// turned: the bytes with one bit turned.
func turned(p []byte, at int, bit byte) []byte {
	p = slices.Clone(p)
	p[at] ^= bit
	return p
}

func header(round, epoch int64, left int) api.Header {
	return api.Header{Round: round, Epoch: epoch, Left: left}
}

// packed: a batch's bytes.
func packed(h api.Header, cells ...[]byte) []byte {
	return must(frame.Pack(api.Batch{Header: h, Cells: cells}))
}

// read: the batch that the bytes are.
func read(raw []byte) api.Batch {
	b, _, e := frame.Read(raw)
	return must(b, e)
}

// held: a state that holds the tags of the cells first to last, seen in one epoch.
func held(c api.Config, next, epoch int64, first, last int) api.State {
	w := api.Window{Newest: epoch}
	return api.State{Next: next, Window: must(window.Add(w, epoch, tagsOf(c, epoch, first, last), api.MaxRoom))}
}

// loud: a tape of so many bytes that tells as many noise cells as there can be.
func loud(n int, seed int64) []byte {
	p := some(n, seed)
	p[0], p[1] = 255, 255
	return p
}

// cloned: the same state in other memory.
func cloned(s api.State) api.State {
	out := api.State{Next: s.Next, Window: api.Window{Newest: s.Window.Newest}}
	for _, e := range s.Window.Epochs {
		out.Window.Epochs = append(out.Window.Epochs, api.Epoch{Number: e.Number, Tags: append([][16]byte{}, e.Tags...)})
	}
	return out
}

func sameEpoch(a, b api.Epoch) bool { return a.Number == b.Number && slices.Equal(a.Tags, b.Tags) }

func sameState(a, b api.State) bool {
	return a.Next == b.Next && a.Window.Newest == b.Window.Newest && slices.EqualFunc(a.Window.Epochs, b.Window.Epochs, sameEpoch)
}

func sameOutcome(a, b api.Outcome) bool {
	return bytes.Equal(a.Out, b.Out) && sameState(a.State, b.State) && a.Report == b.Report && a.Err == b.Err && a.At == b.At
}

func samePeeled(a, b api.Peeled) bool { return bytes.Equal(a.Cell, b.Cell) && a.Replay == b.Replay }

// told: an outcome in short.
func told(o api.Outcome) string {
	s := fmt.Sprintf("error %d at %d, %+v, %d bytes, next %d, newest %d", o.Err, o.At, o.Report, len(o.Out), o.State.Next, o.State.Window.Newest)
	for _, e := range o.State.Window.Epochs {
		s += fmt.Sprintf("; %d: %d tags", e.Number, len(e.Tags))
	}
	return s
}

// A sifting is what Sift answers.
type sifting struct {
	Fresh  []api.Peeled
	Report api.Report
	Err    api.Errno
}

func sift(c api.Config, w api.Window, b api.Batch) sifting {
	fresh, report, e := round.Sift(c, w, b)
	return sifting{fresh, report, e}
}

func (a sifting) same(b sifting) bool {
	return slices.EqualFunc(a.Fresh, b.Fresh, samePeeled) && a.Report == b.Report && a.Err == b.Err
}

func (a sifting) String() string {
	s := fmt.Sprintf("error %d, %+v, %d fresh:", a.Err, a.Report, len(a.Fresh))
	for _, p := range a.Fresh {
		s += fmt.Sprintf(" %x..", p.Cell[:min(8, len(p.Cell))])
	}
	return s
}

// wordsOfConfig: the chapter's words of a right configuration, one behind the other.
func wordsOfConfig(c api.Config) bool {
	wrong := 0
	for _, word := range []struct{ n, from, to int }{
		{len(c.Master), 32, 32}, {c.Left, 1, 8}, {c.Span, 1, 8}, {c.Room, 0, 4096}, {c.Den, 1, 1000}, {c.Num, 0, c.Den},
		{c.Noise, 0, 16}, {c.Chunks, 1, 64}, {c.Workers, 1, 64}, {c.Cap, 0, 1024}, {c.Shards, 1, 64},
	} {
		if word.n < word.from || word.n > word.to {
			wrong++
		}
	}
	return wrong == 0
}

// wordsOfCheck: the chapter's words of Check.
func wordsOfCheck(c api.Config, s api.State) api.Errno {
	if !wordsOfConfig(c) || s.Next < 0 || s.Next > top || window.Check(s.Window, c.Span, c.Room) != api.OK {
		return 210
	}
	return 0
}

// wordsOfSift: the chapter's words of Sift: first all cells are peeled, then each is held against all ahead of it.
func wordsOfSift(c api.Config, w api.Window, b api.Batch) sifting {
	if !wordsOfConfig(c) {
		return sifting{Err: 210}
	}
	key, e := route.Key(c.Master, b.Header.Epoch)
	if e != api.OK {
		return sifting{Err: e}
	}
	var peels []api.Peeled
	for _, x := range b.Cells {
		if p, e := onion.Peel(key, c.Left, x); e == api.OK {
			peels = append(peels, p)
		}
	}
	out := sifting{Report: api.Report{In: len(b.Cells), Malformed: len(b.Cells) - len(peels)}}
	for i, p := range peels {
		ahead := slices.ContainsFunc(peels[:i], func(q api.Peeled) bool { return q.Replay == p.Replay })
		if ahead || window.Has(w, p.Replay) {
			out.Report.Replays++
		} else {
			out.Fresh = append(out.Fresh, p)
		}
	}
	return out
}

// wordsOfMix: the chapter's steps.
func wordsOfMix(c api.Config, s api.State, raw, p []byte) api.Outcome {
	no := func(e api.Errno, at int) api.Outcome { return api.Outcome{State: cloned(s), Err: e, At: at} }
	if e := wordsOfCheck(c, s); e != 0 {
		return no(e, 0)
	}
	b, at, e := frame.Read(raw)
	if e != 0 {
		return no(e, at)
	}
	if b.Header.Left != c.Left {
		return no(212, 0)
	}
	if b.Header.Round < s.Next {
		return no(211, 0)
	}
	w, e := window.Open(s.Window, b.Header.Epoch, c.Span)
	if e != 0 {
		return no(e, 0)
	}
	fresh := wordsOfSift(c, w, b)
	if fresh.Err != 0 {
		return no(fresh.Err, 0)
	}
	parts, e := tape.Split(p, c.Chunks)
	if e != 0 {
		return no(e, 0)
	}
	k := must(noise.Count(parts.Noise, c.Num, c.Den, c.Noise))
	if len(fresh.Fresh)+k > 256 {
		return no(213, 0)
	}
	var cells [][]byte
	var tags [][16]byte
	for _, x := range fresh.Fresh {
		cells, tags = append(cells, x.Cell), append(tags, x.Replay)
	}
	cells = append(cells, must(noise.Cells(parts.Noise, k, c.Left-1))...)
	order, e := riffle.Order(p, len(cells), c.Chunks)
	if e != 0 {
		return no(e, 0)
	}
	shuffled := make([][]byte, len(cells))
	for i, from := range order {
		shuffled[i] = cells[from]
	}
	w, e = window.Add(w, b.Header.Epoch, tags, c.Room)
	if e != 0 {
		return no(e, 0)
	}
	r := fresh.Report
	r.Noise, r.Out = k, len(cells)
	return api.Outcome{
		Out:    packed(header(b.Header.Round, b.Header.Epoch, c.Left-1), shuffled...),
		State:  api.State{Next: b.Header.Round + 1, Window: w},
		Report: r,
	}
}

// checkMix: the round, held against the words.
func checkMix(t *testing.T, what string, c api.Config, s api.State, raw, p []byte) api.Outcome {
	t.Helper()
	got, want := round.Mix(c, s, raw, p), wordsOfMix(c, s, raw, p)
	if !sameOutcome(got, want) {
		t.Errorf("%s: Mix is %s; want %s", what, told(got), told(want))
	}
	return got
}

// mixes: the round, held against the words and against the error that this test tells.
func mixes(t *testing.T, what string, c api.Config, s api.State, raw, p []byte, want api.Errno) api.Outcome {
	t.Helper()
	got := checkMix(t, what, c, s, raw, p)
	if got.Err != want {
		t.Errorf("%s: Mix is %s; want error %d", what, told(got), want)
	}
	return got
}

// checkRefused: beside an error no byte, no report, and the state as it was.
func checkRefused(t *testing.T, what string, s api.State, got api.Outcome, e api.Errno, at int) {
	t.Helper()
	if !sameOutcome(got, api.Outcome{State: s, Err: e, At: at}) {
		t.Errorf("%s: %s; want error %d at %d, nothing else, and the state as it was", what, told(got), e, at)
	}
}

// checkSift: Sift, held against the words.
func checkSift(t *testing.T, what string, c api.Config, w api.Window, b api.Batch) sifting {
	t.Helper()
	got, want := sift(c, w, b), wordsOfSift(c, w, b)
	if !got.same(want) {
		t.Errorf("%s: Sift is %v; want %v", what, got, want)
	}
	return got
}
