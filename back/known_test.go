package back_test

import (
	"crypto/sha256"
	"encoding/hex"
	"fmt"
	"slices"
	"strings"
	"testing"

	"churn/api"
	"churn/back"
	"churn/cell"
	"churn/route"
)

// A well gives bytes by a short rule that another program follows too: the SHA-256 of its name and a count, one behind the other.
type well struct {
	name string
	n    int
	left []byte
}

func (w *well) bytes(n int) []byte {
	for len(w.left) < n {
		sum := sha256.Sum256(fmt.Appendf(nil, "%s %d", w.name, w.n))
		w.left = append(w.left, sum[:]...)
		w.n++
	}
	out := w.left[:n:n]
	w.left = w.left[n:]
	return out
}

// below: a number from 0 to n - 1.
func (w *well) below(n int) int {
	p := w.bytes(3)
	return (int(p[0])<<16 | int(p[1])<<8 | int(p[2])) % n
}

// confs: servers in a row, as the well tells them.
func (w *well) confs() (list []api.Config) {
	hops := 1 + w.below(8)
	for i := range hops {
		c := api.Config{Master: w.bytes(32), Left: hops - i, Span: 8, Room: 4096, Workers: 1, Shards: 1}
		c.Chunks, c.Den = 1+w.below(6), 1+w.below(1000)
		c.Num, c.Noise = w.below(c.Den+1), w.below(17)
		list = append(list, c)
	}
	return list
}

// cells: a batch of clients' cells, some of them once more, some with a bit turned, and some without a rule.
func (w *well) cells(keys [][]byte) (cells [][]byte) {
	for range w.below(16) {
		switch kind := w.below(8); {
		case kind < 2 && len(cells) > 0:
			cells = append(cells, cells[w.below(len(cells))])
		case kind == 2 && len(cells) > 0:
			x := cells[w.below(len(cells))]
			at := w.below(320)
			cells = append(cells, turned(x, at, 1<<w.below(8)))
		case kind == 3:
			cells = append(cells, w.bytes(320))
		default:
			var nonces [][16]byte
			for range keys {
				nonces = append(nonces, [16]byte(w.bytes(16)))
			}
			cells = append(cells, must(route.Wrap(keys, nonces, w.bytes(w.below(49)))))
		}
	}
	return cells
}

// answers: so many cells, plain ones most often.
func (w *well) answers(n int) (cells [][]byte) {
	for range n {
		switch w.below(6) {
		case 0:
			cells = append(cells, noughts)
		case 1:
			cells = append(cells, must(cell.Noise(w.bytes(w.below(320)))))
		case 2:
			cells = append(cells, w.bytes(320))
		default:
			cells = append(cells, must(cell.Plain(w.bytes(w.below(49)))))
		}
	}
	return cells
}

// inFull: a memory and what went out beside it, as a line.
func inFull(m api.Memory, out []byte) string {
	nonces := make([]string, len(m.Nonces))
	for j, n := range m.Nonces {
		nonces[j] = hex.EncodeToString(n[:])
	}
	from := strings.ReplaceAll(listed(m.From), " ", ",")
	return fmt.Sprintf("%d %d %d %d %s %s %x\n", m.Header.Round, m.Header.Epoch, m.Header.Left, m.Count, from, strings.Join(nonces, ","), out)
}

func listed(numbers []int) string { return strings.Trim(fmt.Sprint(numbers), "[]") }

// A way is what another program, with keys, boxes and draws of its own, told of a batch's way through servers there and back.
type way struct {
	from string // what the first server keeps
	back int    // how many answers come out of it
	sum  string // the first bytes of the SHA-256 of all that was kept and put out
}

func wayOf(t *testing.T, n int) way {
	w := &well{name: fmt.Sprint("way ", n)}
	confs := w.confs()
	round, epoch := int64(w.below(100000)), int64(w.below(1025))
	var keys [][]byte
	for _, c := range confs {
		keys = append(keys, must(route.Key(c.Master, epoch)))
	}
	raw := packed(header(round, epoch, len(confs)), w.cells(keys)...)
	all, kept := "", []api.Memory{}
	for _, c := range confs {
		o, m := back.Forward(c, api.State{}, raw, w.bytes(400+w.below(1500)))
		if o.Err != api.OK {
			t.Fatalf("way %d: %s", n, told(o))
		}
		raw, kept, all = o.Out, append(kept, m), all+inFull(m, o.Out)
	}
	b := read(raw)
	raw = packed(b.Header, w.answers(len(b.Cells))...)
	for i, m := range slices.Backward(kept) {
		got := goBack(confs[i], m, raw)
		if got.Err != api.OK {
			t.Fatalf("way %d, back through server %d: %v", n, i, got)
		}
		raw = got.Raw
		all += hex.EncodeToString(raw) + "\n"
	}
	sum := sha256.Sum256([]byte(all))
	k := way{from: listed(kept[0].From), sum: hex.EncodeToString(sum[:16])}
	for _, x := range read(raw).Cells {
		if !onlyNoughts(x) {
			k.back++
		}
	}
	return k
}

var knownWays = []way{
	{"2 0 -1 -1", 2, "3132d0f8ef2f8c4e77070f5fd9ae81dd"},
	{"5 2 6 0 8 -1", 2, "208821e3e6d429df31efefb1f65729fc"},
	{"4 6 0", 2, "ad56ad7f65354b9a3e9c07385c5adfce"},
	{"3 5", 2, "5bce8732ab67a3c620f3db6607d202d4"},
	{"", 0, "0b5942c3854a83d71a6ed7f829d03927"},
	{"-1 4 8 3 5 0 10", 1, "2ea4bf00bebed2bf3aafc446b30d8c98"},
	{"6 9 10 8 4 0 2", 3, "eed74e6aebcb347306414b7cbe9df001"},
	{"0 -1 -1", 0, "9b258721e75dfe324f69d24733ffeae4"},
	{"0 8 4 2 5", 3, "ef5fb7b563808bd8aa9d8b511a32d0b5"},
	{"3 -1 0 4 -1 -1", 1, "4ff985ad4e984d418a1653804bd631fd"},
	{"0 6 8 10 7 12 5 3 4", 7, "a906f97d59c2d1cca3112199de39cc5d"},
	{"-1 10 7 0 3 5 4 8", 3, "4aa13c1fa8b63608ab1323ce9a39515d"},
	{"3 8 -1 6 -1 4 -1 5 0 7", 4, "e36cfb90aa0b22fb4c178ccebc37f301"},
	{"-1 9 -1 2 3 -1 5 1 0 -1 6 4 8", 5, "3f9f491d50188ac18fef4018e413ae51"},
	{"0 4", 0, "cbd407b7ab0f6e24b3b5aaca7efcb9bf"},
	{"-1 -1 -1 3 5 -1 -1 -1 -1 -1 1 12 -1 -1 7 4 0 -1 6", 4, "071e63d61207d49b655ef6cb155b9bb4"},
	{"9 1 4 12 10 5 13 6", 5, "83c28bdb623a6c3fb88862023a3a0fdf"},
	{"1 8 11 0 13 2 4 7", 5, "893d4f206f0394c77eae920997f0b19a"},
	{"-1 2 -1 0 -1", 2, "8547447b7aa94c14e725f95bdef9651a"},
	{"8 5 3 0 9 6 7 4", 4, "bf7b51812c5ac05170d80eb1a27a5bae"},
	{"10 2 7 -1 -1 1 0 11 -1 3 9", 2, "23bd97027c6c43a246c320ec4e0eb287"},
	{"0 -1 2 -1 1", 0, "4596e780ab0032fb461c2a3dea450dca"},
	{"0 2 8", 2, "2dc47d814036f49d5c785cfc081c2569"},
	{"10 11 9 7 5 8", 4, "05daceb1efc7af1dacb40cdc526b2d86"},
	{"0 1", 0, "eb9e0d26dbc0cb0df0095d8fdeb69c4c"},
	{"0 2", 1, "f9f83998c2d0ffd06ba16a405ed867d9"},
	{"0 1", 0, "a286f2eb7ea1e4be155cba8a306168de"},
	{"1 6 -1 0 5 2 4 -1 -1", 3, "1eb5b98502dc82482a4accec6740a3ac"},
	{"6 0 3 5 7", 1, "ad5aa4dee6c8d3e490342799d2536f20"},
	{"9 2 7 5 4 13 1 6 12", 6, "01f924108a75074e68eaefece84e6a40"},
	{"-1 -1", 0, "e5bd994dfa825f28bcee1715fc808ce8"},
	{"-1 7 6 8 2 -1 5 -1 -1 -1 -1", 3, "2f0656ef88b5624bdb6234e0c161b7bc"},
	{"12 6 10 11 2 7 0", 3, "99036541e7dfc1f3e30efe2d7d9b3fc3"},
	{"14 12 9 3 11 0 5 1 6", 2, "5fca78635ea7684c19889ceea191b62e"},
	{"7 11 9 0 6", 3, "cb9eb8da3c48a2a9cd7db5e1cf055edf"},
	{"1 -1 -1 -1 -1 0 -1 8 3 -1 -1 7 -1 11 -1 9 -1 -1 2", 4, "4cbca6fd3e8d7402285ed2ee8292ed5a"},
	{"11 7 1 9 6 0", 2, "4dd0008cf62ebbf847cc1fdd9b6bbf12"},
	{"5 7 0", 1, "830a478dccd3b80418955092c02401be"},
	{"3", 1, "a229798ada1d6a07ed07f97a1e925e6c"},
	{"", 0, "ebc7f886e4d67faa1a58fbd1e76b1d73"},
}

// P29.1: ways there and back of which another program told all that was kept and put out.
func TestKnownWays(t *testing.T) {
	for n, want := range knownWays {
		if got := wayOf(t, n); got != want {
			t.Errorf("way %d: %+v; want %+v", n, got, want)
		}
	}
}
