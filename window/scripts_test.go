package window_test

import (
	"bytes"
	"crypto/sha256"
	"encoding/hex"
	"fmt"
	"hash"
	"math/rand"
	"slices"
	"testing"

	"churn/api"
	"churn/window"
)

// A dice tells numbers that another program can tell too.
type dice uint64

func (d *dice) draw(n uint64) int {
	*d = (*d*1103515245 + 12345) % (1 << 31)
	return int(uint64(*d) >> 16 % n)
}

// wrote: a step's window, tags as hex, and its error.
func wrote(h hash.Hash, w api.Window, e api.Errno) {
	fmt.Fprintf(h, "%d", w.Newest)
	for _, epoch := range w.Epochs {
		list := [][]byte{}
		for _, t := range epoch.Tags {
			list = append(list, []byte(hex.EncodeToString(t[:])))
		}
		fmt.Fprintf(h, ";%d:%s", epoch.Number, bytes.Join(list, []byte(",")))
	}
	fmt.Fprintf(h, "|%d\n", e)
}

// opens: a step that opens the window somewhere about its newest epoch.
func (d *dice) opens(w api.Window, span int) answer {
	at := w.Newest + int64(d.draw(14)) - 10
	if d.draw(50) == 0 {
		at = w.Newest + 1020 + int64(d.draw(9))
	}
	return open(w, at, span)
}

// adds: a step that adds a few tags.
func (d *dice) adds(w api.Window, room int) answer {
	at := w.Newest + 1 - int64(d.draw(10))
	var list [][16]byte
	for range d.draw(6) {
		front, back := byte(d.draw(3)*127), byte(d.draw(7)*40)
		list = append(list, [16]byte(slices.Concat(slices.Repeat([]byte{front}, 9), slices.Repeat([]byte{back}, 7))))
	}
	return add(w, at, list, room)
}

// P16.1: scripts of 3000 steps from the zero window on, each step's answer as another program tells it that keeps a window as a table from tags to epochs.
func TestScriptsOfAnotherProgram(t *testing.T) {
	d := dice(16)
	for _, c := range []struct {
		span, room int
		want       string
	}{
		{1, 5, "e06ca48c605e0053c5a3652263d33e0c5370b2547e6e96830449face8dc87b44"},
		{3, 12, "5e43ed32f45ac244ee33176e2149f142fe606fd88a99d2f66ddeddbe09b27238"},
		{8, 40, "ce98db763df0c53373926c376092146a07927b4c10a354baac8f9e648c74d949"},
		{8, 7, "a16234a6e29b7bc52b541882b5632ae9dab2f8320a8c55b72cf647de056f093d"},
	} {
		h, w := sha256.New(), api.Window{}
		for range 3000 {
			var got answer
			if d.draw(3) == 0 {
				got = d.opens(w, c.span)
			} else {
				got = d.adds(w, c.room)
			}
			if got.Err == api.OK {
				w = got.W
			}
			wrote(h, w, got.Err)
		}
		if got := hex.EncodeToString(h.Sum(nil)); got != c.want {
			t.Errorf("span %d, room %d: the steps come to %s; want %s", c.span, c.room, got, c.want)
		}
	}
}

// P16.1, P16.2, P16.3: scripts of Open and Add from the zero window on, as a server would go through its rounds: each answer is held against the words, against a table of what was taken in, and is right for the span and the room.
func TestScripts(t *testing.T) {
	r := rand.New(rand.NewSource(1630))
	for range 200 {
		span, room := 1+r.Intn(8), r.Intn(13)
		w, table := api.Window{}, map[[16]byte]int64{}
		for range 60 {
			at := max(0, w.Newest+int64(r.Intn(5))-int64(r.Intn(10)))
			opened := checkOpen(t, w, at, span)
			if opened.Err != api.OK {
				continue
			}
			for held, number := range table {
				if number <= opened.W.Newest-int64(span) {
					delete(table, held)
				}
			}
			checkHoldings(t, opened.W, table, span, room)
			list := someTags(r, 4)
			got := checkAdd(t, opened.W, at, list, room)
			w = opened.W
			if got.Err == api.OK {
				w = got.W
				for _, next := range list {
					if _, is := table[next]; !is {
						table[next] = at
					}
				}
			}
			checkHoldings(t, w, table, span, room)
		}
	}
}

// checkHoldings: a window is right, and holds just what the table says, each tag in its epoch.
func checkHoldings(t *testing.T, w api.Window, table map[[16]byte]int64, span, room int) {
	t.Helper()
	if e := checkCheck(t, w, span, room); e != api.OK {
		t.Errorf("%s is not right for span %d, room %d", told(w), span, room)
	}
	if window.Len(w) != len(table) {
		t.Errorf("%s has %d tags; want %d", told(w), window.Len(w), len(table))
	}
	for _, e := range w.Epochs {
		for _, held := range e.Tags {
			if number, is := table[held]; !is || number != e.Number || !window.Has(w, held) {
				t.Errorf("%s: tag %s belongs to epoch %d, %v", told(w), toldTag(held), number, is)
			}
		}
	}
}

// P16.2: a long way: a window that is full to the last tag, epoch by epoch up to 2^62.
func TestLongWay(t *testing.T) {
	w := win(top - 60)
	for step := range 61 {
		at := top - 60 + int64(step)
		got := open(w, at, 8)
		if got.Err == api.OK {
			got = add(got.W, at, numbered(step*512, 512), 4096)
		}
		if w = got.W; got.Err != api.OK || window.Check(w, 8, 4096) != api.OK || w.Newest != at {
			t.Fatalf("step %d: error %d, %d tags", step, got.Err, window.Len(w))
		}
	}
	if window.Len(w) != 4096 || len(w.Epochs) != 8 {
		t.Errorf("at the end: %d tags in %d epochs", window.Len(w), len(w.Epochs))
	}
	if got := open(w, top, 8); !got.same(answer{W: w}) {
		t.Errorf("opened at 2^62: error %d", got.Err)
	}
	if got := open(w, top+1, 8); !got.same(refused(api.ErrArg)) {
		t.Errorf("opened behind 2^62: error %d", got.Err)
	}
}

// orders: all orders of a list.
func orders(list [][16]byte) (out [][][16]byte) {
	if len(list) == 0 {
		return [][][16]byte{nil}
	}
	for i := range list {
		rest := slices.Concat(list[:i], list[i+1:])
		for _, o := range orders(rest) {
			out = append(out, slices.Concat(list[i:i+1], o))
		}
	}
	return out
}

// P16.3: the order of the list doesn't matter to Add: all orders of up to five tags, whatever they meet.
func TestOrderOfListDoesNotMatter(t *testing.T) {
	w := win(9, epoch(4, "bd"), epoch(7, "f"))
	for _, list := range []string{"ace", "edcba", "aabbc", "bdfaz", "fdbfd", "zyxzy"} {
		for _, at := range []int64{2, 4, 5, 7, 9, 10} {
			for room := 2; room <= 9; room++ {
				want := checkAdd(t, w, at, tags(list), room)
				for _, o := range orders(tags(list)) {
					if got := add(w, at, o, room); !got.same(want) {
						t.Errorf("Add(%s, %d, %s, %d) = %v; in another order: %v", told(w), at, told(win(0, api.Epoch{Tags: o})), room, got, want)
					}
				}
			}
		}
	}
}

// P16.3: a tag twice in the list, or often, doesn't matter to Add, and neither does one that the window holds.
func TestTagTwiceDoesNotMatter(t *testing.T) {
	r := rand.New(rand.NewSource(1631))
	for range 3000 {
		w := someRight(r, 8)
		list := someTags(r, 5)
		at, room := w.Newest-int64(r.Intn(9)), r.Intn(16)
		more := slices.Clone(list)
		for range r.Intn(6) {
			if len(list) > 0 {
				more = slices.Insert(more, r.Intn(len(more)+1), list[r.Intn(len(list))])
			}
			for _, e := range w.Epochs {
				more = slices.Insert(more, r.Intn(len(more)+1), e.Tags[0])
			}
		}
		r.Shuffle(len(more), func(i, j int) { more[i], more[j] = more[j], more[i] })
		if got, want := add(w, at, more, room), add(w, at, list, room); !got.same(want) {
			t.Errorf("Add(%s, %d, %s, %d) = %v; want %v", told(w), at, told(win(0, api.Epoch{Tags: more})), room, got, want)
		}
	}
}

// P16.4: a list added in two pieces comes to the same as the whole list, cut wherever.
func TestInPieces(t *testing.T) {
	r := rand.New(rand.NewSource(1632))
	taken := 0
	for range 5000 {
		w := someRight(r, 8)
		list := someTags(r, 9)
		at, room := w.Newest-int64(r.Intn(9)), definedLen(w)+r.Intn(9)
		all := add(w, at, list, room)
		if all.Err != api.OK {
			continue
		}
		taken++
		for cut := range len(list) + 1 {
			first := add(w, at, list[:cut], room)
			second := add(first.W, at, list[cut:], room)
			if first.Err != api.OK || !second.same(all) {
				t.Errorf("Add(%s, %d, %s, %d) = %v; in pieces cut at %d: %v, then %v", told(w), at, told(win(0, api.Epoch{Tags: list})), room, all, cut, first, second)
			}
		}
	}
	if taken < 1000 {
		t.Errorf("only %d lists were taken", taken)
	}
}

// P16.4: in pieces just up to the room, one tag by itself each time; the next new one is refused, one that is held isn't.
func TestInSinglePieces(t *testing.T) {
	r := rand.New(rand.NewSource(1633))
	for _, room := range []int{1, 7, 300} {
		w, list := win(12), numbered(5, room)
		whole := add(w, 7, list, room)
		for _, i := range r.Perm(room) {
			got := add(w, 7, list[i:i+1], room)
			if got.Err != api.OK {
				t.Fatalf("room %d: tag %d: error %d", room, i, got.Err)
			}
			w = got.W
		}
		if !sameWindow(w, whole.W) || whole.Err != api.OK {
			t.Errorf("room %d: one by one %s; whole %v", room, told(w), whole)
		}
		if got := add(w, 12, numbered(5+room, 1), room); !got.same(refused(api.ErrFull)) {
			t.Errorf("room %d: one more: %v", room, got)
		}
		if got := add(w, 12, list, room); !got.same(whole) {
			t.Errorf("room %d: all once more: %v", room, got)
		}
	}
}
