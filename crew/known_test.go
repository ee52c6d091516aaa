package crew_test

import (
	"crypto/sha256"
	"encoding/hex"
	"fmt"
	"strings"
	"testing"

	"churn/api"
	"churn/cell"
	"churn/crew"
	"churn/frame"
	"churn/onion"
	"churn/route"
)

// A well gives bytes by a short rule that another program follows too: the SHA-256 of its name and a count, one behind the other.
type well struct {
	name string
	n    int
	left []byte
}

func (w *well) bytes(n int) []byte {
	for len(w.left) < n {
		sum := sha256.Sum256(fmt.Appendf(nil, "%s %d", w.name, w.n))
		w.left = append(w.left, sum[:]...)
		w.n++
	}
	out := w.left[:n:n]
	w.left = w.left[n:]
	return out
}

// below: a number from 0 to n - 1.
func (w *well) below(n int) int {
	p := w.bytes(3)
	return (int(p[0])<<16 | int(p[1])<<8 | int(p[2])) % n
}

// A row is a server's way over eight rounds, as a well tells it.
type row struct {
	w    *well
	c    api.Config
	s    api.State
	sent [][]byte
}

func newRow(n int) *row {
	w := &well{name: fmt.Sprint("row ", n)}
	c := api.Config{Master: w.bytes(32), Left: 1 + w.below(8), Span: 1 + w.below(8), Room: w.below(60), Den: 1 + w.below(1000)}
	c.Num, c.Noise, c.Chunks = w.below(c.Den+1), w.below(17), 1+w.below([]int{4, 64}[n%2])
	return &row{w: w, c: c}
}

// header: the next batch's, most often one that is taken.
func (r *row) header() api.Header {
	h := api.Header{Left: r.c.Left}
	h.Epoch = max(0, r.s.Window.Newest+int64(r.w.below(5))-2)
	if r.w.below(12) == 0 {
		h.Epoch += 1023
	}
	h.Round = r.s.Next + int64(r.w.below(3))
	if r.w.below(8) == 0 {
		h.Round = max(0, h.Round-2)
	}
	if r.w.below(16) == 0 {
		h.Left = r.w.below(9)
	}
	return h
}

// cell: a new one, one that was sent before, one of those with a bit turned, or bytes without a rule.
func (r *row) cell(epoch int64) []byte {
	switch kind := r.w.below(8); {
	case kind < 2 && len(r.sent) > 0:
		return r.sent[r.w.below(len(r.sent))]
	case kind == 2 && len(r.sent) > 0:
		x := r.sent[r.w.below(len(r.sent))]
		at := r.w.below(320)
		return turned(x, at, 1<<r.w.below(8))
	case kind == 3:
		return r.w.bytes(320)
	}
	first := r.w.bytes(1)[0]
	inner := r.w.bytes(r.w.below(49))
	x := must(cell.Pad(must(onion.Wrap(must(route.Key(r.c.Master, epoch)), [16]byte{first}, r.c.Left, inner))))
	r.sent = append(r.sent, x)
	return x
}

// next: the next round, by so many workers, over channels of that capacity, with so many shards.
func (r *row) next(workers, capacity, shards int) api.Outcome {
	h := r.header()
	var cells [][]byte
	for range r.w.below(24) {
		cells = append(cells, r.cell(h.Epoch))
	}
	most := 60
	if r.w.below(5) > 0 {
		most = 1500
	}
	r.c.Workers, r.c.Cap, r.c.Shards = workers, capacity, shards
	o := crew.Run(r.c, r.s, must(frame.Pack(api.Batch{Header: h, Cells: cells})), r.w.bytes(17+r.w.below(most)))
	r.s = o.State
	return o
}

// inFull: all that an outcome tells, as a line.
func inFull(o api.Outcome) string {
	r := o.Report
	s := fmt.Sprintf("%d %d %d %d %d %d %d %d", o.Err, r.In, r.Malformed, r.Replays, r.Noise, r.Out, o.State.Next, o.State.Window.Newest)
	for _, e := range o.State.Window.Epochs {
		var tags []string
		for _, tag := range e.Tags {
			tags = append(tags, hex.EncodeToString(tag[:]))
		}
		s += fmt.Sprintf(" %d:%s", e.Number, strings.Join(tags, ","))
	}
	return s + fmt.Sprintf(" %x\n", o.Out)
}

// knownRows: the first of those that the tests of round have: what another program, with keys, boxes, draws and windows of its own, told of each row: the eight rounds' errors, and the first bytes of the SHA-256 of all that they came to.
var knownRows = []struct{ errors, sum string }{
	{"212 160 160 160 160 160 160 0", "eb343144e1c9e7540f0f1751becf0b08"},
	{"160 0 211 212 0 0 0 160", "47081402a16d850211ce3e6f719d8e83"},
	{"0 0 0 211 0 212 0 0", "02a7cbc8565cf89ad2735aca901bd822"},
	{"0 0 0 212 0 160 161 0", "fb0ac718265be5c8c01bc0b072d13101"},
	{"0 0 212 161 161 0 0 212", "cf302e7645dea5a16af663543e6f8ee5"},
	{"0 160 160 160 160 211 160 160", "d5b82ced1e03d8acf87d5fd6d7b08805"},
	{"0 3 0 0 160 160 160 160", "da6ee2ebe7d1d0617edcf1f9f86bd84e"},
	{"160 160 160 160 160 160 0 212", "540c77124a0bd2eabc2eb8de5f08b13c"},
	{"0 0 0 0 0 3 0 0", "ed633f8382a18aa5b8e01af59f227fc8"},
	{"0 212 0 0 0 0 0 211", "0df86eeaebada847c648fb36a3606ae0"},
	{"0 0 0 0 0 160 0 160", "5ef9cf5e187e78c867098f41ff777ba6"},
	{"0 0 0 0 212 211 0 211", "453a58bf67ed477a6d455dc5a29ea430"},
	{"3 160 0 160 211 160 160 160", "ba5f7292907393d0d34f597979323c47"},
	{"160 0 160 160 160 160 0 160", "92cb117e7097308695b5ac7d2dd30ace"},
	{"160 160 160 160 160 160 3 160", "462c762d4fc5387ef4fdb4fa23bf01a5"},
	{"0 0 211 0 0 0 0 211", "bde97df94b4f7e61ccb137e91a0cb753"},
	{"0 0 211 0 0 0 160 160", "eb9efcab25b1094a9bcb9572c72aff86"},
	{"0 0 0 0 0 0 0 0", "b4197f11e559ed0b4d38894db65e0b78"},
	{"160 0 0 160 0 160 160 160", "9f74a35916ebab8b846cec1651bc28c8"},
	{"0 0 211 211 0 0 3 160", "318e2a650d2792b97228790cf8c1fbb2"},
}

// P23.1, P23.3 and P2: the rows of rounds whose outcomes are known from the tests of round, each row by many kinds of crews, and by another one in each round.
func TestKnownRows(t *testing.T) {
	crews := [][3]int{{1, 0, 1}, {64, 0, 64}, {64, 1024, 1}, {3, 1, 5}, {8, 7, 2}, {2, 0, 64}}
	for n, k := range knownRows {
		for first := range crews {
			r, all := newRow(n), ""
			var errors []string
			for i := range 8 {
				x := crews[(first+i*(n%3))%len(crews)]
				o := r.next(x[0], x[1], x[2])
				errors = append(errors, fmt.Sprint(int(o.Err)))
				all += inFull(o)
			}
			sum := sha256.Sum256([]byte(all))
			if got := hex.EncodeToString(sum[:16]); got != k.sum || strings.Join(errors, " ") != k.errors {
				t.Errorf("row %d, crew %v first: errors %v, sum %s; want %s, %s", n, crews[first], errors, got, k.errors, k.sum)
			}
		}
	}
}
