package round_test

import (
	"bytes"
	"fmt"
	"math"
	"math/rand"
	"slices"
	"testing"

	"churn/api"
	"churn/block"
	"churn/cell"
	"churn/frame"
	"churn/mac"
	"churn/onion"
	"churn/round"
	"churn/route"
)

// forged: a cell whose tag is right for the hop, and whose plain box is this one.
func forged(c api.Config, epoch int64, n int, plain []byte) []byte {
	key, at := must(route.Key(c.Master, epoch)), nonce(n)
	keys := must(onion.Derive(key, at))
	box := block.Mask(keys.Box, [16]byte{}, append(slices.Clone(plain), make([]byte, onion.Size(c.Left)-32-len(plain))...))
	tag := mac.Tag(keys.Mac[:], slices.Concat([]byte{byte(c.Left)}, at[:], box))
	return must(cell.Pad(slices.Concat(at[:], tag[:16], box)))
}

// A spoiled is a cell that does not peel, and why.
type spoiled struct {
	what string
	cell []byte
	want api.Errno // what onion.Peel answers
}

// malformed: cells of the form of a batch that don't peel at this hop in this epoch, one of each kind.
func malformed(c api.Config, epoch int64, n int) []spoiled {
	good, size := sent(c, epoch, n), onion.Size(c.Left)
	other, later := c, c
	other.Master = bytes.Repeat([]byte{8}, 32)
	later.Left = c.Left%8 + 1
	list := []spoiled{
		{"a nonce's bit", turned(good, 0, 1), api.ErrTag},
		{"a tag's bit", turned(good, 16, 128), api.ErrTag},
		{"a tag's last bit", turned(good, 31, 1), api.ErrTag},
		{"a box's bit", turned(good, 32, 1), api.ErrTag},
		{"a box's last bit", turned(good, size-1, 1), api.ErrTag},
		{"another epoch's", sent(c, epoch+1, n), api.ErrTag},
		{"another hop's", sent(other, epoch, n), api.ErrTag},
		{"noughts", make([]byte, 320), api.ErrTag},
		{"too great a number inside", forged(c, epoch, n, []byte{255, 255}), api.ErrBox},
		{"a number inside one too great", forged(c, epoch, n, []byte{byte((size - 33) >> 8), byte(size - 33)}), api.ErrBox},
		{"a byte behind what is inside", forged(c, epoch, n, []byte{0, 1, 'a', 0, 1}), api.ErrBox},
	}
	if c.Left < 8 {
		list = append(list, spoiled{"a byte behind the onion", turned(good, size, 1), api.ErrPad}, spoiled{"the last byte", turned(good, 319, 64), api.ErrPad}, spoiled{"a cell with more hops left", sent(later, epoch, n), api.ErrPad})
	}
	if c.Left > 1 {
		later.Left = c.Left - 1
		list = append(list, spoiled{"a cell with fewer hops left", sent(later, epoch, n), api.ErrTag})
	}
	return list
}

// otherLengths: what isn't a cell at all; in a batch that was read there is none.
func otherLengths(c api.Config, epoch int64, n int) []spoiled {
	good := sent(c, epoch, n)
	return []spoiled{
		{"nil", nil, api.ErrSize}, {"no bytes", []byte{}, api.ErrSize}, {"a byte short", good[:319], api.ErrSize}, {"a byte too much", append(slices.Clone(good), 0), api.ErrSize},
		{"the onion alone", good[:min(319, onion.Size(c.Left))], api.ErrSize}, {"two cells", slices.Repeat(good, 2), api.ErrSize},
	}
}

// P21.1: the cell that malformed forges is no bad one by the way it was made.
func TestForgedCellsPeel(t *testing.T) {
	c := config(2)
	got := checkSift(t, "forged", c, api.Window{}, api.Batch{Header: header(0, 5, 0), Cells: [][]byte{forged(c, 5, 1, []byte{0, 1, 'a'}), forged(c, 5, 2, []byte{0, 82})}})
	if len(got.Fresh) != 2 || got.Fresh[0].Cell[0] != 'a' {
		t.Errorf("Sift is %v", got)
	}
}

// P21.1: one malformed cell of each kind, by itself, ahead of, between and behind good ones, for each number of hops left: malformed, whatever the error, and of no weight for the others.
func TestEachKindOfMalformed(t *testing.T) {
	for left := 1; left <= 8; left++ {
		c := config(left)
		a, b := sent(c, 6, 1), sent(c, 6, 2)
		key := must(route.Key(c.Master, 6))
		for _, bad := range append(malformed(c, 6, 1), otherLengths(c, 6, 1)...) {
			if _, e := onion.Peel(key, left, bad.cell); e != bad.want {
				t.Fatalf("left %d, %s: Peel tells %d, not %d", left, bad.what, e, bad.want)
			}
			what := fmt.Sprintf("left %d, %s", left, bad.what)
			alone := checkSift(t, what, c, api.Window{}, api.Batch{Header: header(0, 6, 0), Cells: [][]byte{bad.cell}})
			if !alone.same(sifting{Report: api.Report{In: 1, Malformed: 1}}) {
				t.Errorf("%s: Sift is %v", what, alone)
			}
			for i := range 3 {
				got := checkSift(t, what, c, api.Window{}, api.Batch{Header: header(0, 6, 0), Cells: slices.Insert([][]byte{a, b}, i, bad.cell)})
				want := sifting{Fresh: []api.Peeled{peeledOf(c, 6, 1), peeledOf(c, 6, 2)}, Report: api.Report{In: 3, Malformed: 1}}
				if !got.same(want) {
					t.Errorf("%s at place %d: Sift is %v; want %v", what, i, got, want)
				}
			}
		}
	}
}

// P21.1: every bit of an onion, turned: malformed; every bit behind it too.
func TestEachTurnedBit(t *testing.T) {
	c := config(1)
	good := sent(c, 6, 1)
	for i := range 320 * 8 {
		if testing.Short() && i%37 != 0 {
			continue
		}
		got := sift(c, api.Window{}, api.Batch{Header: header(0, 6, 0), Cells: [][]byte{turned(good, i/8, 1<<(i%8)), good}})
		if !got.same(sifting{Fresh: []api.Peeled{peeledOf(c, 6, 1)}, Report: api.Report{In: 2, Malformed: 1}}) {
			t.Errorf("bit %d of byte %d: Sift is %v", i%8, i/8, got)
		}
	}
}

// P21.1: no cell at all.
func TestSiftNothing(t *testing.T) {
	for left := 1; left <= 8; left++ {
		if got := checkSift(t, "no cell", config(left), win(3, epoch(3, 1)), api.Batch{Header: header(0, 3, left)}); !got.same(sifting{}) {
			t.Errorf("left %d: Sift is %v", left, got)
		}
	}
}

// P21.1: cells twice in one batch: the first is fresh, each other one a replay, wherever it stands; all lists of up to five of three cells, one of them malformed.
func TestSiftTwice(t *testing.T) {
	c := config(3)
	kinds := [][]byte{sent(c, 9, 1), sent(c, 9, 2), turned(sent(c, 9, 1), 40, 2)}
	var all func(ahead [][]byte)
	all = func(ahead [][]byte) {
		b := api.Batch{Header: header(0, 9, 3), Cells: ahead}
		got := checkSift(t, fmt.Sprintf("%d cells", len(ahead)), c, api.Window{}, b)
		if got.Report.Malformed+got.Report.Replays+len(got.Fresh) != len(ahead) || len(got.Fresh) > 2 {
			t.Errorf("Sift is %v", got)
		}
		if len(ahead) < 5 {
			for _, x := range kinds {
				all(append(slices.Clone(ahead), x))
			}
		}
	}
	all(nil)
}

// P21.1: cells whose tag the window holds, in whichever epoch, first, between and last among its tags.
func TestSiftAgainstWindows(t *testing.T) {
	c := config(2)
	cells, tags := sentAll(c, 9, 1, 4), tagsOf(c, 9, 1, 4)
	low, high := [16]byte{}, [16]byte(bytes.Repeat([]byte{255}, 16))
	for mask := range 16 {
		for _, number := range []int64{9, 8, 7, 10, 0} {
			e := api.Epoch{Number: number, Tags: [][16]byte{low}}
			for i, tag := range tags {
				if mask>>i&1 == 1 {
					e.Tags = append(e.Tags, tag)
				}
			}
			e.Tags = append(e.Tags, high)
			slices.SortFunc(e.Tags, func(a, b [16]byte) int { return bytes.Compare(a[:], b[:]) })
			for _, w := range []api.Window{win(number, e), win(number+1, e, epoch(number+1, 1, 2)), win(number+1, epoch(number-1, 4), e)} {
				what := fmt.Sprintf("mask %b, epoch %d of %d", mask, number, len(w.Epochs))
				got := checkSift(t, what, c, w, api.Batch{Header: header(0, 9, 2), Cells: cells})
				if got.Report.Replays+len(got.Fresh) != 4 || got.Report.Replays != []int{0, 1, 1, 2, 1, 2, 2, 3, 1, 2, 2, 3, 2, 3, 3, 4}[mask] {
					t.Errorf("%s: Sift is %v", what, got)
				}
			}
		}
	}
}

// P21.1: the window is taken as it is, opened or not, sound or not: its tags count wherever they stand.
func TestSiftOfOddWindows(t *testing.T) {
	c := config(1)
	a, b := sent(c, 9, 1), sent(c, 9, 2)
	tag := peeledOf(c, 9, 1).Replay
	batch := api.Batch{Header: header(0, 9, 1), Cells: [][]byte{a, b, a}}
	for what, w := range map[string]api.Window{
		"too old":           win(500, api.Epoch{Number: 3, Tags: [][16]byte{tag}}),
		"above Newest":      win(3, api.Epoch{Number: 90, Tags: [][16]byte{tag}}),
		"below 0":           win(-7, api.Epoch{Number: -9, Tags: [][16]byte{tag}}),
		"out of order":      win(9, api.Epoch{Number: 9, Tags: [][16]byte{{255}, tag, {254}, {0}}}),
		"twice":             win(9, api.Epoch{Number: 9, Tags: [][16]byte{tag, tag}}, api.Epoch{Number: 9, Tags: [][16]byte{tag}}),
		"behind empty ones": win(9, epoch(9), epoch(8), epoch(7), api.Epoch{Number: 6, Tags: [][16]byte{{1}, tag}}),
		"at the ends":       win(math.MinInt64, epoch(math.MaxInt64, 3), api.Epoch{Number: math.MinInt64, Tags: [][16]byte{tag}}),
	} {
		got := checkSift(t, what, c, w, batch)
		if !got.same(sifting{Fresh: []api.Peeled{peeledOf(c, 9, 2)}, Report: api.Report{In: 3, Replays: 2}}) {
			t.Errorf("%s: Sift is %v", what, got)
		}
	}
	tight := c
	tight.Room, tight.Span = 0, 1
	w := win(9, api.Epoch{Number: 2, Tags: [][16]byte{tag, {1}, {2}}})
	if got := checkSift(t, "more than the room", tight, w, batch); len(got.Fresh) != 1 || got.Err != api.OK {
		t.Errorf("more than the room: Sift is %v", got)
	}
}

// P21.1: batches whose Epoch has no key, however many cells there are; the configuration is looked at ahead of it.
func TestSiftWithoutAKey(t *testing.T) {
	c := config(1)
	cells := sentAll(c, 3, 1, 2)
	for _, x := range []struct {
		epoch int64
		want  api.Errno
	}{
		{math.MinInt64, 2}, {-1, 2}, {0, 0}, {1, 0}, {top - 1, 0}, {top, 0}, {top + 1, 2}, {math.MaxInt64, 2},
	} {
		for _, list := range [][][]byte{nil, cells} {
			got := checkSift(t, fmt.Sprint("epoch ", x.epoch), c, api.Window{}, api.Batch{Header: header(0, x.epoch, 1), Cells: list})
			want := sifting{Err: x.want}
			if x.want == api.OK {
				want.Report = api.Report{In: len(list), Malformed: len(list)}
			}
			if !got.same(want) {
				t.Errorf("epoch %d, %d cells: Sift is %v; want %v", x.epoch, len(list), got, want)
			}
			bad := c
			bad.Shards = 65
			if got := sift(bad, api.Window{}, api.Batch{Header: header(0, x.epoch, 1), Cells: list}); !got.same(sifting{Err: api.ErrConfig}) {
				t.Errorf("epoch %d and 65 shards: Sift is %v", x.epoch, got)
			}
		}
	}
}

// P21.1: cells of the greatest epoch and of the first are peeled under their own keys.
func TestSiftAtTheEnds(t *testing.T) {
	c := config(4)
	for _, x := range [][2]int64{{0, 1}, {1, 0}, {255, 256}, {256, 1}, {top - 1, top}, {top, top - 1}} {
		at, beside := x[0], x[1]
		got := checkSift(t, fmt.Sprint("epoch ", at), c, api.Window{}, api.Batch{Header: header(0, at, 4), Cells: [][]byte{sent(c, at, 1), sent(c, beside, 2), sent(c, at, 3)}})
		if !got.same(sifting{Fresh: []api.Peeled{peeledOf(c, at, 1), peeledOf(c, at, 3)}, Report: api.Report{In: 3, Malformed: 1}}) {
			t.Errorf("epoch %d: Sift is %v", at, got)
		}
	}
}

// P21.1: of the header the Epoch alone is looked at.
func TestSiftOfOddHeaders(t *testing.T) {
	c := config(2)
	cells := sentAll(c, 3, 1, 3)
	want := checkSift(t, "plain", c, api.Window{}, api.Batch{Header: header(0, 3, 2), Cells: cells})
	for _, n := range []int64{math.MinInt64, -1, 0, 1, 7, top, math.MaxInt64} {
		if got := sift(c, api.Window{}, api.Batch{Header: header(n, 3, int(n)), Cells: cells}); len(got.Fresh) != 3 || !got.same(want) {
			t.Errorf("Round and Left %d: Sift is %v; want %v", n, got, want)
		}
	}
}

// P21.1: any number of cells is taken, more than a batch has too, and they may be one and the same memory.
func TestSiftMany(t *testing.T) {
	c := config(1)
	var cells [][]byte
	for i := range 1000 {
		cells = append(cells, sent(c, 3, i*7%600))
	}
	cells = append(cells, slices.Repeat([][]byte{nil}, 500)...)
	got := checkSift(t, "1500 cells", c, api.Window{}, api.Batch{Header: header(0, 3, 1), Cells: cells})
	if got.Report != (api.Report{In: 1500, Malformed: 500, Replays: 400}) || len(got.Fresh) != 600 {
		t.Errorf("1500 cells: Sift is error %d, %+v, %d fresh", got.Err, got.Report, len(got.Fresh))
	}
}

// P21.1: windows and batches without a rule.
func TestSiftAny(t *testing.T) {
	r := rand.New(rand.NewSource(2120))
	rounds := 400
	if testing.Short() {
		rounds = 40
	}
	for i := range rounds {
		c := config(1 + r.Intn(8))
		c.Master = some(32, int64(i))
		at := int64(r.Intn(4))
		bad := malformed(c, at, 1)
		var cells [][]byte
		for range r.Intn(14) {
			switch r.Intn(4) {
			case 0:
				cells = append(cells, bad[r.Intn(len(bad))].cell)
			case 1:
				cells = append(cells, some(320+r.Intn(3)/2, int64(i)))
			default:
				cells = append(cells, sent(c, at, r.Intn(9)))
			}
		}
		w := held(c, 0, at, 0, r.Intn(6)-1).Window
		if r.Intn(3) == 0 {
			w.Epochs = append(w.Epochs, epoch(1, 5, 4))
		}
		checkSift(t, fmt.Sprint("number ", i), c, w, api.Batch{Header: header(0, at, 0), Cells: cells})
	}
}

// P21.1: what Sift answers beside OK has Noise and Out 0, and cells that are the next hop's, or plain ones behind the last.
func TestSiftAnswersCells(t *testing.T) {
	c, keys := config(3), [][]byte(nil)
	for _, master := range [][]byte{c.Master, some(32, 1), some(32, 2)} {
		keys = append(keys, must(route.Key(master, 5)))
	}
	x := must(route.Wrap(keys, [][16]byte{{1}, {2}, {3}}, []byte("hello")))
	for i, master := range [][]byte{c.Master, some(32, 1), some(32, 2)} {
		c.Master, c.Left = master, 3-i
		got := sift(c, api.Window{}, api.Batch{Header: header(0, 5, 0), Cells: [][]byte{x}})
		if got.Err != api.OK || len(got.Fresh) != 1 || got.Report != (api.Report{In: 1}) {
			t.Fatalf("hop %d: Sift is %v", i, got)
		}
		x = got.Fresh[0].Cell
	}
	if p, is, e := cell.Open(x); string(p) != "hello" || !is || e != api.OK {
		t.Errorf("behind the last hop: %q, %v, error %d", p, is, e)
	}
	raw := packed(header(0, 5, 1), x)
	if b, _, e := frame.Read(raw); e != api.OK || !bytes.Equal(b.Cells[0], x) {
		t.Error("what Sift answers can't go out")
	}
	if _, r, _ := round.Sift(c, api.Window{}, api.Batch{Header: header(0, 5, 0), Cells: [][]byte{x}}); r.Malformed != 1 {
		t.Errorf("a plain cell handed in: %+v", r)
	}
}
