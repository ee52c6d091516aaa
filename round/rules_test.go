package round_test

import (
	"bytes"
	"fmt"
	"slices"
	"sync"
	"testing"

	"churn/api"
	"churn/round"
)

// givens: what Mix may be handed: rounds that are OK, and one refused at each step.
func givens() []given {
	list := []given{sound()}
	quietly := sound()
	quietly.c.Noise = 0
	quietly.cells = [][]byte{manyCells[7], make([]byte, 320), manyCells[7]}
	list = append(list, quietly)
	none := sound()
	none.cells, none.h.Epoch = nil, 12
	list = append(list, none)
	for _, x := range spoilings() {
		if x.want == api.ErrCrowd {
			continue // much of the same
		}
		g := sound()
		x.spoil(&g)
		list = append(list, g)
	}
	for _, w := range oddWindows() {
		g := sound()
		g.s.Window = w.w
		list = append(list, g)
	}
	return list
}

// rimmed: the list in the midst of more memory, and that memory.
func rimmed[T any](list []T, around T) (inside, all []T) {
	all = slices.Concat(slices.Repeat([]T{around}, 5), list, slices.Repeat([]T{around}, 5))
	return all[5 : 5+len(list)], all
}

// A laid is what is handed to the calls, and all the memory in which it lies.
type laid struct {
	c         api.Config
	s         api.State
	raw, tape []byte
	b         api.Batch

	bytes  [][]byte // whole, with what lies ahead and in the spare room
	tags   [][][16]byte
	epochs []api.Epoch
	cells  [][]byte // the list of cells, with what lies about it
}

// lay: the same arguments, with something about each list of them.
func (g given) lay() *laid {
	l := &laid{c: g.c, s: cloned(g.s)}
	keep := func(p []byte) []byte {
		inside, all := rimmed(p, 0xEE)
		l.bytes = append(l.bytes, all)
		return inside
	}
	l.c.Master, l.raw, l.tape = keep(g.c.Master), keep(g.raw()), keep(g.tape)
	for i, e := range l.s.Window.Epochs {
		inside, all := rimmed(e.Tags, [16]byte{0xEE})
		l.s.Window.Epochs[i].Tags = inside
		l.tags = append(l.tags, all)
	}
	l.s.Window.Epochs, l.epochs = rimmed(l.s.Window.Epochs, epoch(77, 1))
	var cells [][]byte
	for _, x := range g.cells {
		cells = append(cells, keep(x))
	}
	l.b.Header = g.h
	l.b.Cells, l.cells = rimmed(cells, []byte("rim"))
	return l
}

// picture: all of that memory, in other memory.
func (l *laid) picture() string {
	return fmt.Sprintf("%x %x %v %x", l.bytes, l.tags, l.epochs, l.cells)
}

// scribble: writes over all of it.
func (l *laid) scribble() {
	for _, p := range l.bytes {
		for i := range p {
			p[i] = 0xAB
		}
	}
	for _, list := range l.tags {
		for i := range list {
			list[i] = [16]byte{0xAB}
		}
	}
	for i := range l.epochs {
		l.epochs[i] = epoch(-5, 0xAB)
	}
	for i := range l.cells {
		l.cells[i] = []byte("over")
	}
}

// calls: what all calls answer to these.
func (l *laid) calls() (api.Errno, sifting, api.Outcome) {
	return round.Check(l.c, l.s), sift(l.c, l.s.Window, l.b), round.Mix(l.c, l.s, l.raw, l.tape)
}

// Rule 5: what is handed in stays as it is, what lies about it and in its spare room too; and its spare room tells nothing.
func TestArgumentsStay(t *testing.T) {
	for i, g := range givens() {
		l := g.lay()
		before := l.picture()
		check, fresh, o := l.calls()
		if l.picture() != before {
			t.Errorf("arguments %d were changed", i)
		}
		if check != wordsOfCheck(g.c, g.s) || !fresh.same(wordsOfSift(g.c, g.s.Window, api.Batch{Header: g.h, Cells: g.cells})) || !sameOutcome(o, wordsOfMix(g.c, g.s, g.raw(), g.tape)) {
			t.Errorf("arguments %d with room about them: %d, %v, %s", i, check, fresh, told(o))
		}
	}
}

// Rule 5: an answer is not changed by what becomes of the arguments, refused or not.
func TestArgumentsAreNotKept(t *testing.T) {
	for i, g := range givens() {
		l := g.lay()
		_, fresh, o := l.calls()
		l.scribble()
		if !fresh.same(wordsOfSift(g.c, g.s.Window, api.Batch{Header: g.h, Cells: g.cells})) || !sameOutcome(o, wordsOfMix(g.c, g.s, g.raw(), g.tape)) {
			t.Errorf("arguments %d written over: %v, %s", i, fresh, told(o))
		}
	}
}

// over: writes over a list and its room.
func over[T any](list []T, x T) {
	list = list[:cap(list)]
	for i := range list {
		list[i] = x
	}
}

// Rule 5: outcomes, refused ones too, are memory of their own: each list of one, written over with its room, shows in no other list of it, in no argument and in no other outcome.
func TestOutcomesAreApart(t *testing.T) {
	for i, g := range givens() {
		l := g.lay()
		before, want := l.picture(), wordsOfMix(g.c, g.s, g.raw(), g.tape)
		other := round.Mix(l.c, l.s, l.raw, l.tape)
		for k := range 2 + len(want.State.Window.Epochs) {
			o := round.Mix(l.c, l.s, l.raw, l.tape)
			epochs := slices.Clone(o.State.Window.Epochs)
			switch k {
			case 0:
				over(o.Out, 0xCD)
				o.Out = want.Out
			case 1:
				over(o.State.Window.Epochs, epoch(-3, 0xCD))
			default:
				over(epochs[k-2].Tags, [16]byte{0xCD})
				epochs[k-2].Tags = want.State.Window.Epochs[k-2].Tags
			}
			o.State.Window.Epochs = epochs
			if !sameOutcome(o, want) {
				t.Errorf("arguments %d: list %d written over shows elsewhere in the outcome: %s", i, k, told(o))
			}
			if l.picture() != before || !sameOutcome(other, want) {
				t.Errorf("arguments %d: list %d written over shows in what was handed in, or in another outcome", i, k)
			}
		}
	}
}

// Rule 5: each cell that Sift answers is memory of its own.
func TestSiftedAreApart(t *testing.T) {
	for _, left := range []int{1, 2, 8} {
		c := config(left)
		b := api.Batch{Header: header(0, 4, left), Cells: sentAll(c, 4, 1, 5)}
		first, second, want := sift(c, api.Window{}, b), sift(c, api.Window{}, b), wordsOfSift(c, api.Window{}, b)
		for i := range first.Fresh {
			over(first.Fresh[i].Cell, 0xCD)
			for j := range first.Fresh {
				if j > i && !samePeeled(first.Fresh[j], want.Fresh[j]) {
					t.Errorf("left %d: cell %d written over shows in cell %d", left, i, j)
				}
			}
			if i > 0 && !bytes.Equal(first.Fresh[i-1].Cell, bytes.Repeat([]byte{0xCD}, 320)) {
				t.Errorf("left %d: cell %d shows in the one ahead of it", left, i)
			}
		}
		over(first.Fresh, api.Peeled{})
		if !second.same(want) || !sift(c, api.Window{}, b).same(want) {
			t.Errorf("left %d: another answer has become %v", left, second)
		}
	}
}

// Rule 5: arguments may share memory with one another; the answers are the same, and share none.
func TestSharedArguments(t *testing.T) {
	g := sound()
	raw := g.raw()
	want := wordsOfMix(g.c, g.s, raw, raw)
	if got := round.Mix(g.c, g.s, raw, raw); !sameOutcome(got, want) {
		t.Errorf("the bytes as the tape: %s; want %s", told(got), told(want))
	}
	own := g.c
	own.Master = raw[60:92]
	if got, want := round.Mix(own, g.s, raw, raw[30:900]), wordsOfMix(own, g.s, raw, raw[30:900]); !sameOutcome(got, want) {
		t.Errorf("the master's key in the bytes: %s; want %s", told(got), told(want))
	}
	tags := [][16]byte{{1}, {2}}
	twice := api.State{Window: win(5, api.Epoch{Number: 4, Tags: tags}, api.Epoch{Number: 5, Tags: tags})}
	got := round.Mix(g.c, twice, raw, g.tape)
	checkRefused(t, "two epochs with one list", twice, got, api.ErrConfig, 0)
	got.State.Window.Epochs[0].Tags[0] = [16]byte{9}
	if got.State.Window.Epochs[1].Tags[0] != tags[0] || tags[0] != [16]byte{1} {
		t.Error("two epochs of the copy share a list")
	}
}

// Rule 6: what was called before shows in no answer, and many calls at one time go by the same arguments.
func TestManyAtOneTime(t *testing.T) {
	list := givens()
	var want []api.Outcome
	for _, g := range list {
		want = append(want, wordsOfMix(g.c, g.s, g.raw(), g.tape))
	}
	var group sync.WaitGroup
	for n := range 8 {
		group.Go(func() {
			for i := range list {
				j := (i*5 + n) % len(list)
				if got := list[j].mix(); !sameOutcome(got, want[j]) {
					t.Errorf("hand %d, arguments %d: %s; want %s", n, j, told(got), told(want[j]))
				}
			}
		})
	}
	group.Wait()
}

func ExampleMix() {
	c := api.Config{Master: bytes.Repeat([]byte{7}, 32), Left: 1, Span: 3, Room: 100, Num: 1, Den: 2, Noise: 4, Chunks: 2, Workers: 1, Shards: 1}
	a, b := sent(c, 4, 1), sent(c, 4, 2)
	tape := append([]byte{255, 255}, bytes.Repeat([]byte{1, 2, 3, 4}, 20)...)
	o := round.Mix(c, api.State{}, packed(header(0, 4, 1), a, b, a), tape)
	fmt.Println(o.Err, o.Report.In, o.Report.Replays, o.Report.Noise, o.Report.Out)
	o = round.Mix(c, o.State, packed(header(1, 4, 1), b, a), tape)
	fmt.Println(o.Err, o.Report.In, o.Report.Replays, o.Report.Noise, o.Report.Out)
	o = round.Mix(c, o.State, packed(header(1, 4, 1)), tape)
	fmt.Println(o.Err, o.State.Next)
	// Output:
	// churn: error 0 3 1 4 6
	// churn: error 0 2 2 4 4
	// churn: error 211 2
}
