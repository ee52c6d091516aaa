package crew_test

import (
	"bytes"
	"fmt"
	"math/rand"
	"slices"
	"testing"

	"churn/api"
	"churn/crew"
)

// givens: rounds that are OK, and one refused at each step.
func givens() []given {
	list := []given{sound(), sound().with(3, 0, 5)}
	none := sound()
	none.cells = nil
	few := sound()
	few.cells, few.h.Epoch, few.c.Noise = [][]byte{cells[7], make([]byte, 320), cells[7], cells[255]}, 10, 0
	list = append(list, none, few)
	for _, x := range spoilings() {
		if x.want == api.ErrCrowd {
			continue // much of the same
		}
		g := sound()
		x.spoil(&g)
		list = append(list, g)
	}
	odd := sound()
	odd.s.Window = api.Window{Newest: -4, Epochs: []api.Epoch{{Number: 7}, {Number: 3, Tags: [][16]byte{{2}, {1}, {2}}}}}
	return append(list, odd)
}

// rimmed: the list in the midst of more memory, and that memory.
func rimmed[T any](list []T, around T) (inside, all []T) {
	all = slices.Concat(slices.Repeat([]T{around}, 5), list, slices.Repeat([]T{around}, 5))
	return all[5 : 5+len(list)], all
}

// over: writes over a list and its room.
func over[T any](list []T, x T) {
	list = list[:cap(list)]
	for i := range list {
		list[i] = x
	}
}

// A laid is what Run is handed, and all the memory in which it lies.
type laid struct {
	c         api.Config
	s         api.State
	raw, tape []byte

	bytes  [3][]byte // whole, with what lies ahead and in the spare room
	tags   [][][16]byte
	epochs []api.Epoch
}

// lay: the same arguments, with something about each list of them.
func (g given) lay() *laid {
	l := &laid{c: g.c, s: g.s}
	l.c.Master, l.bytes[0] = rimmed(g.c.Master, 0xEE)
	l.raw, l.bytes[1] = rimmed(g.raw(), 0xEE)
	l.tape, l.bytes[2] = rimmed(g.tape, 0xEE)
	l.s.Window.Epochs, l.epochs = rimmed(g.s.Window.Epochs, api.Epoch{Number: 77})
	for i, e := range l.s.Window.Epochs {
		inside, all := rimmed(e.Tags, [16]byte{0xEE})
		l.s.Window.Epochs[i].Tags = inside
		l.tags = append(l.tags, all)
	}
	return l
}

func (l *laid) run() api.Outcome { return crew.Run(l.c, l.s, l.raw, l.tape) }

// picture: all of that memory, in other memory.
func (l *laid) picture() string { return fmt.Sprintf("%x %x %v", l.bytes, l.tags, l.epochs) }

// scribble: writes over all of that memory. Under the race detector a goroutine that goes on reading behind the answer is found so too.
func (l *laid) scribble() {
	for _, p := range l.bytes {
		over(p, 0xAB)
	}
	for _, list := range l.tags {
		over(list, [16]byte{0xAB})
	}
	over(l.epochs, api.Epoch{Number: -5})
}

// P23.4, rule 5: what is handed to Run stays as it is, what lies about it and in its spare room too; that tells nothing; and an answer isn't changed by what becomes of it.
func TestArgumentsOfRun(t *testing.T) {
	for i, g := range givens() {
		l, want := g.lay(), g.mix()
		before := l.picture()
		o := l.run()
		if l.picture() != before {
			t.Errorf("arguments %d were changed", i)
		}
		if !sameOutcome(o, want) {
			t.Errorf("arguments %d with room about them: %s; want %s", i, told(o), told(want))
		}
		l.scribble()
		if !sameOutcome(o, want) {
			t.Errorf("arguments %d written over: %s; want %s", i, told(o), told(want))
		}
	}
}

// P23.4, rule 5: outcomes are memory of their own: each list of one, written over with its room, shows in no other list of it, in no argument and in no other answer.
func TestOutcomesAreApart(t *testing.T) {
	for i, g := range givens() {
		l, want := g.lay(), g.mix()
		before, other := l.picture(), l.run()
		for k := range 2 + len(want.State.Window.Epochs) {
			o := l.run()
			epochs := slices.Clone(o.State.Window.Epochs)
			switch k {
			case 0:
				over(o.Out, 0xCD)
				o.Out = want.Out
			case 1:
				over(o.State.Window.Epochs, api.Epoch{Number: -3})
			default:
				over(epochs[k-2].Tags, [16]byte{0xCD})
				epochs[k-2].Tags = want.State.Window.Epochs[k-2].Tags
			}
			o.State.Window.Epochs = epochs
			if !sameOutcome(o, want) {
				t.Errorf("arguments %d: list %d written over shows elsewhere in the outcome: %s", i, k, told(o))
			}
			if l.picture() != before || !sameOutcome(other, want) {
				t.Errorf("arguments %d: list %d written over shows in what was handed in, or in another outcome", i, k)
			}
		}
	}
}

// A pile is a list of cells, and all the memory in which it lies.
type pile struct {
	list  [][]byte
	all   [][]byte // the list, with what lies about it
	bytes [][]byte // each cell, with what lies about it
}

// piled: the same cells, with something about each of them and about the list.
func piled(list [][]byte) *pile {
	p := &pile{}
	var inside [][]byte
	for _, c := range list {
		c, all := rimmed(c, 0xEE)
		inside = append(inside, c)
		p.bytes = append(p.bytes, all)
	}
	p.list, p.all = rimmed(inside, []byte("rim"))
	return p
}

func (p *pile) picture() string { return fmt.Sprintf("%x %x", p.all, p.bytes) }

func (p *pile) scribble() {
	for _, c := range p.bytes {
		over(c, 0xAB)
	}
	over(p.all, []byte("over"))
}

// P23.4, rule 5: what is handed to Peel stays as it is, what lies about it and in its spare room too, tells nothing, and isn't kept; beside an error too.
func TestArgumentsOfPeel(t *testing.T) {
	for _, left := range []int{1, 2, 8, 9} {
		list := kinds(max(1, left%9))
		for _, x := range [][2]int{{1, 0}, {3, 1}, {64, 1024}, {0, 0}, {65, 7}, {3, -1}, {3, 1025}} {
			p, want := piled(list), wordsOfPeel(key, left, list, x[0], x[1])
			k, whole := rimmed(key, 0xEE)
			before, kept := p.picture(), slices.Clone(whole)
			got := peel(k, left, p.list, x[0], x[1])
			if p.picture() != before || !slices.Equal(whole, kept) {
				t.Errorf("left %d, %v: the cells or the key were changed", left, x)
			}
			p.scribble()
			over(whole, 0xAB)
			if !got.same(want) {
				t.Errorf("left %d, %v, with room about the cells, and written over: %v; want %v", left, x, got, want)
			}
		}
	}
}

// P23.4: the cells that Peel answers, those of one and the same cell too, share no memory with one another, nor both lists with those of another answer.
func TestPeeledAreApart(t *testing.T) {
	list := append(slices.Repeat(cells[:1], 5), cells[1], nil, cells[2], cells[1])
	want := wordsOfPeel(key, 2, list, 1, 0)
	for _, x := range [][2]int{{1, 0}, {2, 1}, {64, 1024}} {
		p := piled(list)
		p.list = append(p.list[:0:0], p.list...)
		for i := range 5 {
			p.list[i] = p.list[0] // one and the same memory
		}
		before, other := p.picture(), peel(key, 2, p.list, x[0], x[1])
		for i := range list {
			got := peel(key, 2, p.list, x[0], x[1])
			over(got.Peeled[i].Cell, 0xCD)
			got.Peeled[i].Cell = want.Peeled[i].Cell
			if !got.same(want) {
				t.Errorf("%v: cell %d written over shows in another one: %v", x, i, got)
			}
			over(got.Peeled, api.Peeled{})
			over(got.Sound, i%2 == 0)
		}
		if p.picture() != before || !other.same(want) {
			t.Errorf("%v: answers written over show in what was handed in, or in another answer", x)
		}
	}
}

// P23.4, rule 5: what is handed to Shuffle stays as it is, what lies about it and in its spare room too, tells nothing, and isn't kept; beside an error too.
func TestArgumentsOfShuffle(t *testing.T) {
	for _, list := range [][][]byte{nil, cells[:1], cells[:20], short(40), short(257), {nil, {}, {1}, cells[3], nil, cells[3]}} {
		for _, chunks := range []int{0, 1, 2, 7, 64, 65} {
			for _, length := range []int{17, 30, 2000} {
				want := checkShuffle(t, "as it is", some(length, 2341), chunks, list)
				p := piled(list)
				tape, whole := rimmed(some(length, 2341), 0xEE)
				before, kept := p.picture(), slices.Clone(whole)
				got := shuffle(tape, chunks, p.list)
				if p.picture() != before || !slices.Equal(whole, kept) {
					t.Errorf("%d cells, %d chunks, %d bytes: the cells or the tape were changed", len(list), chunks, length)
				}
				p.scribble()
				over(whole, 0xAB)
				if !got.same(want) {
					t.Errorf("%d cells, %d chunks, %d bytes, with room about them, and written over: %v; want %v", len(list), chunks, length, got, want)
				}
			}
		}
	}
}

// P23.4: each cell that Shuffle answers is a copy: it shares no memory with another one, though they be one and the same in what was handed in, nor with a cell of that.
func TestShuffledAreApart(t *testing.T) {
	same := []byte("one and the same")
	list := [][]byte{same, same, same[:5], same[3:], []byte("another"), same}
	for _, chunks := range []int{1, 2, 3, 6, 64} {
		tape := some(500, int64(chunks))
		other := checkShuffle(t, "apart", tape, chunks, list)
		want := shuffling{List: slices.Clone(other.List)}
		for i, c := range want.List {
			want.List[i] = slices.Clone(c)
		}
		for i := range list {
			got := shuffle(tape, chunks, list)
			over(got.List[i], 0xCD)
			got.List[i] = want.List[i]
			if !got.same(want) {
				t.Errorf("%d chunks: cell %d written over shows in another one: %v", chunks, i, got)
			}
			over(got.List, nil)
		}
		if string(same) != "one and the same" || string(list[4]) != "another" || !other.same(want) {
			t.Errorf("%d chunks: answers written over show in what was handed in, or in another answer", chunks)
		}
	}
}

// P23.4: what Run puts out shares nothing with its input, and Peel's answer may be handed to Shuffle and back: each call's cells stay what they are.
func TestAnswersHandedOn(t *testing.T) {
	list := slices.Clone(cells[:30])
	first := must(crew.Shuffle(some(900, 2342), 4, list))
	peeled := peel(key, 2, first, 4, 1)
	for _, c := range first {
		over(c, 0xCD)
	}
	for i, p := range peeled.Peeled {
		if !peeled.Sound[i] || !bytes.HasPrefix(p.Cell, []byte("cell ")) {
			t.Errorf("cell %d: %v, %q", i, peeled.Sound[i], p.Cell[:min(8, len(p.Cell))])
		}
	}
	for i, c := range list {
		if !slices.Equal(c, sent(2, i)) {
			t.Errorf("cell %d of what was handed in has changed", i)
		}
	}
}

// Rule 4: nil and empty lists are one and the same.
func TestNilAndEmpty(t *testing.T) {
	g := batch(quiet(2, 2, 1), nil)
	first := crew.Run(g.c, g.s, g.raw(), g.tape)
	g.s.Window.Epochs = []api.Epoch{}
	second := crew.Run(g.c, g.s, g.raw(), g.tape)
	if first.Err != api.OK || !sameOutcome(first, second) {
		t.Errorf("%s; %s", told(first), told(second))
	}
	first, second = crew.Run(g.c, g.s, nil, nil), crew.Run(g.c, g.s, []byte{}, []byte{})
	if first.Err != api.ErrShort || !sameOutcome(first, second) {
		t.Errorf("no bytes: %s; %s", told(first), told(second))
	}
	for _, list := range [][][]byte{nil, {}, {nil}, {{}}} {
		got := checkPeel(t, "nothing", key, 2, list, 3, 0)
		if got.Err != api.OK || count(got.Sound) != 0 {
			t.Errorf("%d cells: %v", len(list), got)
		}
		checkPeel(t, "no key", nil, 2, list, 3, 0)
		checkPeel(t, "no key", []byte{}, 2, list, 3, 0)
		checkShuffle(t, "nothing", make([]byte, 18), 2, list)
		checkShuffle(t, "nothing", nil, 2, list)
		checkShuffle(t, "nothing", []byte{}, 2, list)
	}
}

// Rule 3: beside an error there is nothing else.
func TestBesideErrors(t *testing.T) {
	for _, x := range []struct{ left, workers, capacity int }{{0, 1, 0}, {9, 1, 0}, {2, 0, 0}, {2, 65, 0}, {2, 1, -1}, {2, 1, 1025}} {
		if p, sound, e := crew.Peel(key, x.left, cells[:5], x.workers, x.capacity); e != api.ErrArg || len(p)+len(sound) > 0 {
			t.Errorf("%+v: %d and %d, error %d", x, len(p), len(sound), e)
		}
	}
	for _, x := range []struct {
		tape, chunks, n int
		want            api.Errno
	}{{17, 3, 5, api.ErrTape}, {20, 1, 5, api.ErrTape}, {20, 64, 5, api.ErrTape}, {2000, 0, 5, api.ErrArg}, {2000, 65, 5, api.ErrArg}, {2000, 3, 257, api.ErrArg}} {
		if list, e := crew.Shuffle(some(x.tape, 2343), x.chunks, short(x.n)); e != x.want || len(list) > 0 {
			t.Errorf("%+v: %d cells, error %d", x, len(list), e)
		}
	}
}

// Rule 6: what was called before shows in no answer: all kinds of calls one behind the other, in several orders.
func TestNothingIsKept(t *testing.T) {
	r := rand.New(rand.NewSource(2344))
	list := givens()
	for range 6 {
		for _, i := range r.Perm(len(list)) {
			checkRun(t, list[i])
			checkPeel(t, "between", key, 1+r.Intn(8), mixed(r.Intn(20), r), 1+r.Intn(64), r.Intn(3))
			checkShuffle(t, "between", some(r.Intn(300), r.Int63()), 1+r.Intn(64), mixed(r.Intn(20), r))
		}
	}
}
