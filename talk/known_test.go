package talk_test

import (
	"crypto/sha256"
	"encoding/hex"
	"fmt"
	"strconv"
	"strings"
	"testing"

	"churn/api"
	"churn/talk"
)

// A well gives bytes by a short rule that another program follows too: the SHA-256 of its name and a count, one behind the other.
type well struct {
	name string
	n    int
	left []byte
}

func (w *well) bytes(n int) []byte {
	for len(w.left) < n {
		sum := sha256.Sum256(fmt.Appendf(nil, "%s %d", w.name, w.n))
		w.left = append(w.left, sum[:]...)
		w.n++
	}
	out := w.left[:n:n]
	w.left = w.left[n:]
	return out
}

// below: a number from 0 to n - 1.
func (w *well) below(n int) int {
	p := w.bytes(3)
	return (int(p[0])<<16 | int(p[1])<<8 | int(p[2])) % n
}

// confs: servers in a row, and their master keys, as the well tells them.
func (w *well) confs() (list []api.Config, masters [][]byte) {
	hops := 1 + w.below(8)
	for i := range hops {
		c := api.Config{Master: w.bytes(32), Left: hops - i}
		c.Span, c.Room, c.Den = 1+w.below(8), 20+w.below(60), 1+w.below(1000)
		c.Num, c.Noise, c.Chunks = w.below(c.Den+1), w.below(17), 1+w.below(6)
		c.Workers, c.Cap, c.Shards = 1+w.below(8), w.below(4), 1+w.below(8)
		list, masters = append(list, c), append(masters, c.Master)
	}
	return list, masters
}

// nonces: so many.
func (w *well) nonces(n int) (list [][16]byte) {
	for range n {
		list = append(list, [16]byte(w.bytes(16)))
	}
	return list
}

// An asked is a cell, and the nonces that it was made with.
type asked struct {
	cell   []byte
	nonces [][16]byte
}

// batch: what clients ask at one of these drops, some of it once more, and some cells without a rule; and all that they have asked so far.
func (w *well) batch(masters [][]byte, epoch int64, names [][8]byte, sent []asked) (list, all []asked) {
	for range w.below(12) {
		var a asked
		switch kind := w.below(8); {
		case kind == 0 && len(sent) > 0:
			a = sent[w.below(len(sent))]
		case kind == 1:
			a.cell, a.nonces = w.bytes(320), w.nonces(len(masters))
		default:
			a.nonces = w.nonces(len(masters))
			name := names[w.below(3)]
			a.cell = must(talk.Ask(masters, epoch, a.nonces, name, w.bytes(w.below(41))))
			sent = append(sent, a)
		}
		list = append(list, a)
	}
	return list, sent
}

// tapes: so many, some of them too short.
func (w *well) tapes(n int) (list [][]byte) {
	for range n {
		length := 17
		if w.below(60) > 0 {
			length = 400 + w.below(1000)
		}
		list = append(list, w.bytes(length))
	}
	return list
}

// script: up to nineteen numbers.
func (w *well) script() (list []int) {
	for range w.below(20) {
		list = append(list, w.below(200)-100)
	}
	return list
}

// outcomesInFull: what each server did, as lines.
func outcomesInFull(list []api.Outcome) (text string) {
	for _, o := range list {
		text += strconv.Itoa(int(o.Err))
		if r := o.Report; o.Err == api.OK {
			text += fmt.Sprintf(" %d %d %d %d %d %x", r.In, r.Malformed, r.Replays, r.Noise, r.Out, o.Out)
		}
		text += "\n"
	}
	return text
}

// inFull: what is heard, with its message.
func (h heard) inFull() string {
	if h.Err != api.OK {
		return fmt.Sprintf("e%d", int(h.Err))
	}
	return fmt.Sprintf("%d:%x", h.How, h.Message)
}

// A known is what another program, with keys, boxes, draws and windows of its own, told of four rounds of a talk.
type known struct {
	heard string // round by round: how each answer came about, - where none came; or the error, and which server refused
	sum   string // the first bytes of the SHA-256 of all that was put out, there and back, and heard
}

func knownOf(t *testing.T, n int) known {
	w := &well{name: fmt.Sprint("talk ", n)}
	cs, masters := w.confs()
	p := newPair(t, cs)
	var names [][8]byte
	for range 3 {
		names = append(names, [8]byte(w.bytes(8)))
	}
	round, epoch := int64(w.below(1000)), int64(w.below(1000))
	var batch, sent []asked
	text, lines := "", []string{}
	for range 4 {
		round, epoch = round+int64(1+w.below(3)), epoch+int64(w.below(2))
		batch, sent = w.batch(masters, epoch, names, sent)
		var cells [][]byte
		for _, a := range batch {
			cells = append(cells, a.cell)
		}
		tapes := w.tapes(len(cs))
		engine, script := w.below(3), w.script()
		list, comes := p.round(engine, entry(round, epoch, len(cs), cells...), tapes, script...)
		text += outcomesInFull(list)
		if end := list[len(list)-1]; end.Err != api.OK {
			lines = append(lines, fmt.Sprintf("%d at %d", int(end.Err), len(list)-1))
			continue
		}
		var whole, short []string
		for i, x := range read(comes).Cells {
			h := hear(masters, epoch, batch[i].nonces, x)
			whole = append(whole, h.inFull())
			if h.Err == api.ErrTag {
				short = append(short, "-")
			} else {
				short = append(short, strconv.Itoa(h.How))
			}
		}
		text += hex.EncodeToString(comes) + "\n" + strings.Join(whole, " ") + "\n"
		lines = append(lines, strings.Join(short, " "))
	}
	sum := sha256.Sum256([]byte(text))
	return known{strings.Join(lines, "; "), hex.EncodeToString(sum[:16])}
}

var knownTalks = []known{
	{"- 2 1 2 2 - - 1 -; - - - 0 - 1 - 1; 0 -; 1 0 1 0", "30e550e22dd9917544ba7b9e28c6e73c"},
	{"; 2 0 - - - 0 2 2; - 2 1 2 2 2 - 2 1 2 -; 2 1 2 - - 2 1 1 1", "33188f08170995b6bdfe81a97bd57785"},
	{"1 2 1 - 2 2 2; 0 0 0 - -; 1 - - 2 - - - 1 2 - 2; 3 at 3", "d50b167e17f58432622518cb8ff16d2c"},
	{"- 1 - 1 1 - - 1 - -; 1 - 0 1 -; 2 2 0 0 - 2; 0 2 - 1 1 2 2", "b68b621f570f89f422239546a496257b"},
	{"1 1 0 0; ; 2 2 2 1 - - - 1; 2 2 2 - 2 0 2 - 2 2 -", "9193c1917f08d88032d419d1c535a63e"},
	{"0; 2 2 2 -; 2 2 - 2 - 1 - - 0 2 1; - - -", "ddec413c100ff2c8618c72de38d47a95"},
	{"; 1 0 1; - 2 2 2 2 2 2 0 2; 0", "da2502443a7365b9ea1030cffeb211b7"},
	{"2 2 0 - 2 1 2 1; 3 at 5; 0 0; 2 2 2 - 2 - - 2 2 2", "004b3c26c82c91e71836538ac2b505ce"},
	{"1 1 2 - 2 2 2 2 2 2; 2 2 2 2 2 2; 0 1 1; ", "92463960d925002a2274afb9858fe305"},
	{"1 0 1 - - - - - -; - 0 0 0 -; ; - -", "c16f91d6727a545de0d58ffd1c7f297a"},
	{"; 0 0; 2 1 1 2 2 2 2 2 2 2 -; ", "44fc828659e6b5db7712a1ca44ef0752"},
	{"0 - - 1 1 - - -; - 0 0; - 2 0 2 - 1 2 1 -; 1 0 - - 1 0", "7a2ea2f7baf62dec32835530214677db"},
	{"1 2 1 1 2 - 2 1 -; 0 0 0; - 1 1 0; - 2 0 2 - 2 2", "4ab23160b5a5d42caf3ec79147a23aea"},
	{"; 0 0; 1 2 1 2 - 2 1 2 1 - 2; 1 1 0 1 1 -", "e0968229e5fce207ac3d08b4f245722c"},
	{"- 2 1 0 2 2 1; 1 - 2 2 2 2 1 - 2 -; 0; 0", "7bc9b32fb3da4c68d0bde8117f41414e"},
	{"1 0 - 1; 2 1 1 2 2 2 2 2; 2 2 2 2 2 2 2 0 -; 2 2 2 2 - 2 2 2 0", "bf448793b1039636688680b009be6041"},
	{"0; 2 - - 2 2 2 2 - 0 2 2; 2 1 2 1 2 2 2 - 2 2; - 1 1", "72b8b9573bfd22517788e0fc03ab9fff"},
	{"- 1 1; 1 1 - 0 0; - 2 0 0 2 2; 1 1 2 2 - 2 2 2 - 0", "d68206ffd499e8d28d5cd4fffc06057a"},
	{"2 0 - 0 - 2 2; 1 1; 2 2 0 2 - 2 0 2; - 2 - 2 - 2 2 2 2 -", "b392b72898f8e45b7bf66b38a3fe5e5c"},
	{"2 - 2 1 2 0 1 2 2; 1 0 1; - 1 1; - 0 - 1 1", "b94d5bc65466c5c3138f830d9f70b290"},
	{"3 at 6; 1 2 1 2 2; 1 - - - 2 0 2 1 2 2 -; 160 at 3", "793279a8307a26711c8683fa21976fdb"},
	{"1 1 1 1; ; - - 1 1; - 0 0", "6e664cced8289d6ce5fd12d8c1e48a19"},
	{"3 at 2; 2 2 - - - 2 2 2 2 2; 0; 0 -", "196cfd796e597e760484b4bfbddd246b"},
	{"0 -; 2 0 2 - 2; 2 - - - 1 2 2 1 2; - 2 1 1 2 - 1 1 2", "56422359e22c87a782dd19df75fefb46"},
	{"0; - - 1 - 1 0; ; 1 1 0 -", "efd8ccb66c4c9389481c33bcf89c6272"},
	{"- 1 - - 1; - 0 1 1; 0; - 0", "0a28afb12a8978b9e21b75b97c33df0a"},
	{"2 0 - 1 1 2 2; 0 - - 0; 0; - 2 1 2 - 1 - 2 -", "8d4224f2844fe0a5cd60ec2a3e38f785"},
	{"0 2 2 2; 0 - 1 1 1 1; 2 2 2 2 - - 1 2 1 2; 0 -", "cca1236e7a521a69c12554c5c31ca5ce"},
	{"2 0 - 2 - 2 0 2 2 2; ; -; 1 - - 1 - 1 1", "de1fdf0129b359f801a8b8f50af5d08a"},
	{"2 2 2 2 2 2 2 2 2 2; 2 2 - - 2 2 2 - 2 2 -; 2 1 2 2 1; 0 0", "3ff2905969f23b2527938f655a022d9d"},
	{"- 0 0; 0 - - 0 0 - -; ; 2 1 2 - - 1 2 2 2 2", "6cc3e15ac7fff2c240035b348cbd090e"},
	{"1 2 - 2 2 - 2 2 - 1; 3 at 5; 0 0 0; 3 at 5", "5d0cd24e6398446d68fe490783b690ae"},
	{"1 0 1; - - 1 1 1 1 - 1 1 -; 1 1 - 0 - -; 2 2 2 2 2 2 0 2 -", "05f3e00b00199d2357c4fc0ccb055e9c"},
	{"2 2 2 0 2; 0 - 0; - - 1 1 1 0 1; ", "7250c22423c45d37bfdf80a6fb7cb23c"},
	{"0 1 1 - 1 - 1; - 0 - 1 - 1 1 1; - 1 2 1 2 - 2 - 2 2; 1 1 1 1", "3d0d426b5fca9da6a06913dbc7e14dbc"},
	{"- 2 2 0 0 2; 3 at 1; - 2 2 0 - 2 - 0; - -", "74ff0cc6779a61e6d6d0b6e5873d031a"},
	{"3 at 1; - 2 - 2 0 2 -; - -; ", "b35dc86a19c50e991fc0e7bffe4bc9a9"},
	{"0; 1 1 1 1 - 0; 2 2 0 - 2 2 0 - 2; 0", "4ea1f39b8302284e88f88501e69f0635"},
	{"0 0 1 1; 1 1; 1 0 - 1; - -", "a727315b6f02ba050bf45b774a384212"},
	{"3 at 1; - 1 1 2 2 1 2 - 2 1; 2 2 2 2 - 2 2 2 2 2; 2 - - 2 2 2 0", "1305460a8e2582351ba79f0bb4d6cfbc"},
}

// P30.1: talks of which another program told all that was put out and heard.
func TestKnownTalks(t *testing.T) {
	for n, want := range knownTalks {
		if got := knownOf(t, n); got != want {
			t.Errorf("talk %d: %+v; want %+v", n, got, want)
		}
	}
}
