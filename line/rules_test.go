package line_test

import (
	"fmt"
	"slices"
	"sync"
	"testing"

	"churn/api"
	"churn/line"
)

// givens: rounds that are OK, and one refused at each step.
func givens() []given {
	list := []given{sound(), sound().with(3, 0, 5)}
	none := sound()
	none.cells = nil
	few := sound()
	few.cells, few.h.Epoch, few.c.Noise = [][]byte{cells[7], make([]byte, 320), cells[7], cells[255]}, 10, 0
	list = append(list, none, few)
	for _, x := range spoilings() {
		if x.want == api.ErrCrowd {
			continue // much of the same
		}
		g := sound()
		x.spoil(&g)
		list = append(list, g)
	}
	odd := sound()
	odd.s.Window = api.Window{Newest: -4, Epochs: []api.Epoch{{Number: 7}, {Number: 3, Tags: [][16]byte{{2}, {1}, {2}}}}}
	return append(list, odd)
}

// rimmed: the list in the midst of more memory, and that memory.
func rimmed[T any](list []T, around T) (inside, all []T) {
	all = slices.Concat(slices.Repeat([]T{around}, 5), list, slices.Repeat([]T{around}, 5))
	return all[5 : 5+len(list)], all
}

// A laid is what Run is handed, and all the memory in which it lies.
type laid struct {
	c         api.Config
	s         api.State
	raw, tape []byte
	script    []int

	bytes   [3][]byte // whole, with what lies ahead and in the spare room
	numbers []int
	tags    [][][16]byte
	epochs  []api.Epoch
}

// lay: the same arguments, with something about each list of them.
func (g given) lay(script []int) *laid {
	l := &laid{c: g.c, s: g.s}
	l.c.Master, l.bytes[0] = rimmed(g.c.Master, 0xEE)
	l.raw, l.bytes[1] = rimmed(g.raw(), 0xEE)
	l.tape, l.bytes[2] = rimmed(g.tape, 0xEE)
	l.script, l.numbers = rimmed(script, 0xEE)
	l.s.Window.Epochs, l.epochs = rimmed(g.s.Window.Epochs, api.Epoch{Number: 77})
	for i, e := range l.s.Window.Epochs {
		inside, all := rimmed(e.Tags, [16]byte{0xEE})
		l.s.Window.Epochs[i].Tags = inside
		l.tags = append(l.tags, all)
	}
	return l
}

func (l *laid) run() (api.Outcome, api.History) { return line.Run(l.c, l.s, l.raw, l.tape, l.script) }

// picture: all of that memory, in other memory.
func (l *laid) picture() string {
	return fmt.Sprintf("%x %v %x %v", l.bytes, l.numbers, l.tags, l.epochs)
}

// over: writes over a list and its room.
func over[T any](list []T, x T) {
	list = list[:cap(list)]
	for i := range list {
		list[i] = x
	}
}

// scribble: writes over all of that memory.
func (l *laid) scribble() {
	for _, p := range l.bytes {
		over(p, 0xAB)
	}
	over(l.numbers, 0xAB)
	for _, list := range l.tags {
		over(list, [16]byte{0xAB})
	}
	over(l.epochs, api.Epoch{Number: -5})
}

var anyScript = []int{3, -1, 4, 1, -5, 9, 2, 6, 5, 3, 5, 8, 9, 7, 9}

// Rule 5: what is handed in stays as it is, what lies about it and in its spare room too; and that tells nothing.
func TestArgumentsStay(t *testing.T) {
	for i, g := range givens() {
		l := g.lay(anyScript)
		before := l.picture()
		o, h := l.run()
		if l.picture() != before {
			t.Errorf("arguments %d were changed", i)
		}
		if p, k := g.run(anyScript...); !sameOutcome(o, p) || !sameHistory(h, k) {
			t.Errorf("arguments %d with room about them: %s, %+v; want %s, %+v", i, told(o), h, told(p), k)
		}
	}
}

// Rule 5: an answer is not changed by what becomes of the arguments, refused or not.
func TestArgumentsAreNotKept(t *testing.T) {
	for i, g := range givens() {
		l := g.lay(anyScript)
		o, h := l.run()
		l.scribble()
		if p, k := g.run(anyScript...); !sameOutcome(o, p) || !sameHistory(h, k) {
			t.Errorf("arguments %d written over: %s, %+v; want %s, %+v", i, told(o), h, told(p), k)
		}
	}
}

// Rule 5: outcomes and histories are memory of their own: each list of one, written over with its room, shows in no other list of it, in no argument and in no other answer.
func TestAnswersAreApart(t *testing.T) {
	for i, g := range givens() {
		l := g.lay(anyScript)
		before := l.picture()
		want, wantHistory := g.run(anyScript...)
		other, otherHistory := l.run()
		for k := range 3 + len(want.State.Window.Epochs) {
			o, h := l.run()
			epochs := slices.Clone(o.State.Window.Epochs)
			switch k {
			case 0:
				over(o.Out, 0xCD)
				o.Out = want.Out
			case 1:
				over(o.State.Window.Epochs, api.Epoch{Number: -3})
			case 2:
				over(h.Picks, -7)
				h.Picks = wantHistory.Picks
			default:
				over(epochs[k-3].Tags, [16]byte{0xCD})
				epochs[k-3].Tags = want.State.Window.Epochs[k-3].Tags
			}
			o.State.Window.Epochs = epochs
			if !sameOutcome(o, want) || !sameHistory(h, wantHistory) {
				t.Errorf("arguments %d: list %d written over shows elsewhere in the answer: %s, %+v", i, k, told(o), h)
			}
			if l.picture() != before || !sameOutcome(other, want) || !sameHistory(otherHistory, wantHistory) {
				t.Errorf("arguments %d: list %d written over shows in what was handed in, or in another answer", i, k)
			}
		}
	}
}

// Rule 4: nil and empty lists are one and the same.
func TestNilAndEmpty(t *testing.T) {
	g := batch(quiet(2, 2, 1), nil)
	first, h := line.Run(g.c, g.s, g.raw(), g.tape, nil)
	g.s.Window.Epochs = []api.Epoch{}
	second, k := line.Run(g.c, g.s, g.raw(), g.tape, []int{})
	if first.Err != api.OK || !sameOutcome(first, second) || !sameHistory(h, k) {
		t.Errorf("%s, %+v; %s, %+v", told(first), h, told(second), k)
	}
	first, h = line.Run(g.c, g.s, nil, nil, nil)
	second, k = line.Run(g.c, g.s, []byte{}, []byte{}, []int{})
	if first.Err != api.ErrShort || !sameOutcome(first, second) || !sameHistory(h, k) {
		t.Errorf("no bytes: %s, %+v; %s, %+v", told(first), h, told(second), k)
	}
}

// Rule 6: what was called before shows in no answer, and many calls at one time go by the same arguments.
func TestManyAtOneTime(t *testing.T) {
	list := givens()
	outcomes, histories := make([]api.Outcome, len(list)), make([]api.History, len(list))
	for i, g := range list {
		outcomes[i], histories[i] = g.run(anyScript...)
	}
	var group sync.WaitGroup
	for n := range 8 {
		group.Go(func() {
			for i := range list {
				j := (i*5 + n) % len(list)
				if o, h := list[j].run(anyScript...); !sameOutcome(o, outcomes[j]) || !sameHistory(h, histories[j]) {
					t.Errorf("hand %d, arguments %d: %s, %+v", n, j, told(o), h)
				}
			}
		})
	}
	group.Wait()
}
