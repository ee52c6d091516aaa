package back_test

import (
	"bytes"
	"fmt"
	"runtime/metrics"
	"slices"
	"sync"
	"testing"

	"churn/api"
	"churn/back"
	"churn/cell"
	"churn/reply"
	"churn/round"
	"churn/route"
)

// rimmed: the list in the midst of more memory, and that memory.
func rimmed[T any](list []T, around T) (inside, all []T) {
	all = slices.Concat(slices.Repeat([]T{around}, 9), list, slices.Repeat([]T{around}, 9))
	return all[9 : 9+len(list)], all
}

// over: writes over a list and its room.
func over[T any](list []T, x T) {
	list = list[:cap(list)]
	for i := range list {
		list[i] = x
	}
}

// A handed is what a call is handed in.
type handed struct {
	c         api.Config
	s         api.State
	m         api.Memory
	raw, tape []byte
}

// An around is all the memory in which what was handed in lies.
type around struct {
	bytes  [][]byte
	tags   [][][16]byte
	epochs []api.Epoch
	from   []int
	nonces [][16]byte
}

// lay: the same in other memory, with something about each list.
func (h handed) lay() (handed, *around) {
	a := &around{}
	keep := func(p []byte) []byte {
		inside, all := rimmed(p, 0xEE)
		a.bytes = append(a.bytes, all)
		return inside
	}
	h.c.Master, h.raw, h.tape = keep(h.c.Master), keep(h.raw), keep(h.tape)
	h.m.From, a.from = rimmed(h.m.From, 77)
	h.m.Nonces, a.nonces = rimmed(h.m.Nonces, [16]byte{0xEE})
	var epochs []api.Epoch
	for _, e := range h.s.Window.Epochs {
		inside, all := rimmed(e.Tags, [16]byte{0xEE})
		epochs = append(epochs, api.Epoch{Number: e.Number, Tags: inside})
		a.tags = append(a.tags, all)
	}
	h.s.Window.Epochs, a.epochs = rimmed(epochs, api.Epoch{Number: 77})
	return h, a
}

// picture: all of that memory, in other memory.
func (a *around) picture() string {
	return fmt.Sprintf("%x %x %v %v %x", a.bytes, a.tags, a.epochs, a.from, a.nonces)
}

func (a *around) scribble() {
	for _, p := range a.bytes {
		over(p, 0xAB)
	}
	for _, list := range a.tags {
		over(list, [16]byte{0xAB})
	}
	over(a.epochs, api.Epoch{Number: -5})
	over(a.from, -99)
	over(a.nonces, [16]byte{0xAB})
}

// An answer is what the calls answer, each its own part.
type answer struct {
	o api.Outcome
	m api.Memory
	g gone
	e api.Errno
}

// same, and in short.
func (a answer) same(b answer) bool {
	return sameOutcome(a.o, b.o) && sameMemory(a.m, b.m) && a.g.same(b.g) && a.e == b.e
}

func (a answer) String() string {
	return fmt.Sprintf("%s; %s; %v; error %d", told(a.o), tell(a.m), a.g, a.e)
}

// An ask is one call with what it is handed in, and what it answers by the words.
type ask struct {
	name        string
	in          handed
	call, words func(h handed) answer
}

func (a ask) answered() answer { return a.call(a.in) }

func (a ask) wanted() answer { return a.words(a.in) }

func askForward(h handed) answer {
	o, m := back.Forward(h.c, h.s, h.raw, h.tape)
	return answer{o: o, m: m}
}

func wordsOfForward(h handed) answer {
	o := round.Mix(h.c, h.s, h.raw, h.tape)
	return answer{o: o, m: definedMemory(h.c, h.s, h.raw, h.tape, o)}
}

func askCheck(h handed) answer { return answer{e: back.Check(h.m)} }

func wordsOfCheck(h handed) answer { return answer{e: definedCheck(h.m)} }

func askReturn(h handed) answer { return answer{g: goBack(h.c, h.m, h.raw)} }

func wordsOfReturn(h handed) answer { return answer{g: definedReturn(h.c, h.m, h.raw)} }

// asks: calls that are taken, and some that are refused at each step.
func asks() (all []ask) {
	forward := func(what string, g given) {
		all = append(all, ask{"Forward, " + what, handed{c: g.c, s: g.s, raw: g.raw(), tape: g.tape}, askForward, wordsOfForward})
	}
	forward("sound", sound())
	none := sound()
	none.cells, none.h.Epoch = nil, 12
	forward("no cells", none)
	quietly := sound()
	quietly.c.Noise = 0
	forward("no noise", quietly)
	for _, x := range spoilings() {
		if x.want != api.ErrCrowd { // much of the same
			g := sound()
			x.spoil(&g)
			forward(x.what, g)
		}
	}
	for _, m := range []api.Memory{{}, memory(1, 3), memory(8, 3), {Count: 2, From: []int{1, 1}, Nonces: make([][16]byte, 2)}} {
		all = append(all, ask{"Check of " + tell(m), handed{m: m}, askCheck, wordsOfCheck})
	}
	for _, left := range []int{1, 2, 7} {
		turn := func(what string, a asked) {
			all = append(all, ask{fmt.Sprintf("Return, left %d, %s", left, what), handed{c: a.c, m: a.m, raw: a.raw()}, askReturn, wordsOfReturn})
		}
		turn("right", right(left))
		a := right(left)
		a.cells[0], a.cells[2] = noughts, with(a.cells[2], 319, 1)
		turn("no answers", a)
		for _, x := range wrongs() {
			a := right(left)
			x.spoil(&a)
			turn(x.what, a)
		}
	}
	return all
}

// Rule 5: what is handed in stays as it is, with what lies about it and in its spare room; and that tells nothing.
func TestWhatIsHandedInStays(t *testing.T) {
	for _, a := range asks() {
		in, around := a.in.lay()
		before := around.picture()
		got := a.call(in)
		if around.picture() != before {
			t.Errorf("%s: what was handed in has changed", a.name)
		}
		if want := a.wanted(); !got.same(want) {
			t.Errorf("%s, with room about it: %v; want %v", a.name, got, want)
		}
	}
}

// Rule 5: what was handed in isn't kept: written over, it shows in no answer, and in no later one.
func TestWhatIsHandedInIsNotKept(t *testing.T) {
	for _, a := range asks() {
		want := a.wanted()
		in, around := a.in.lay()
		got := a.call(in)
		around.scribble()
		if !got.same(want) {
			t.Errorf("%s, written over: %v; want %v", a.name, got, want)
		}
		if got := a.answered(); !got.same(want) {
			t.Errorf("%s, asked once more: %v; want %v", a.name, got, want)
		}
	}
}

// writeOver: writes over each list of an answer with its room, one behind the other; look is called behind each of them, with the answer in which those that were written over are the wanted ones again.
func (a answer) writeOver(want answer, look func(what string, rest answer)) {
	out, epochs, from, nonces, raw := a.o.Out, a.o.State.Window.Epochs, a.m.From, a.m.Nonces, a.g.Raw
	_, _, _ = append(out, 1), append(from, 1), append(raw, 1)
	over(out, 0xCD)
	rest := a
	rest.o.Out = want.o.Out
	look("the bytes that go out", rest)
	over(from, -77)
	rest.m.From = want.m.From
	look("From", rest)
	over(nonces, [16]byte{0xCD})
	rest.m.Nonces = want.m.Nonces
	look("the nonces", rest)
	over(raw, 0xCD)
	rest.g.Raw = want.g.Raw
	look("the bytes that go back", rest)
	for i := range epochs {
		over(epochs[i].Tags, [16]byte{0xCD})
	}
	over(epochs, api.Epoch{Number: -3})
	rest.o.State = want.o.State
	look("the state", rest)
}

// Rule 5: an answer is the caller's own: each list of one, written over with its room and appended to, shows in no other list of it, in nothing that was handed in, and in no other answer.
func TestAnswersAreNew(t *testing.T) {
	for _, a := range asks() {
		want := a.wanted()
		in, around := a.in.lay()
		before := around.picture()
		got, other := a.call(in), a.call(in)
		got.writeOver(want, func(what string, rest answer) {
			if !rest.same(want) {
				t.Errorf("%s: %s written over shows in the answer's other lists: %v", a.name, what, rest)
			}
			if around.picture() != before || !other.same(want) {
				t.Errorf("%s: %s written over shows in what was handed in, or in another answer", a.name, what)
			}
		})
	}
}

// Rule 5: a memory shares nothing with the outcome beside it, nor with what goes back by it: with all of these written over it serves again.
func TestMemoriesServeAgain(t *testing.T) {
	g := sound()
	o, m := back.Forward(g.c, g.s, g.raw(), g.tape)
	answers := packed(m.Header, fulls(2, len(m.From))...)
	want := definedReturn(g.c, m, answers)
	for range 3 {
		got := goBack(g.c, m, answers)
		if !got.same(want) || got.Err != api.OK {
			t.Errorf("%v; want %v", got, want)
		}
		over(got.Raw, 0xCD)
		over(o.Out, 0xCD)
		over(o.State.Window.Epochs, api.Epoch{Number: -3})
	}
}

// Rule 5: what is handed in may share memory; the answers are the same, and share none.
func TestSharedArguments(t *testing.T) {
	g := sound()
	raw := g.raw()
	g.c.Master = raw[60:92]
	before := bytes.Clone(raw)
	checkForward(t, "the key in the bytes, the bytes as the tape", g.c, g.s, raw, raw)
	a := right(2)
	raw2 := a.raw()
	a.c.Master = raw2[30:62]
	before2 := bytes.Clone(raw2)
	checkReturn(t, "the key in the bytes", a.c, a.m, raw2)
	if !bytes.Equal(raw, before) || !bytes.Equal(raw2, before2) {
		t.Error("what was handed in has changed")
	}
}

// Rule 4: nil and empty are one and the same.
func TestNilIsEmpty(t *testing.T) {
	c := quiet(1)
	for _, from := range [][]int{nil, {}, make([]int, 0, 9), []int{1, 2}[:0]} {
		for _, nonces := range [][][16]byte{nil, {}, make([][16]byte, 3)[:0]} {
			m := api.Memory{From: from, Nonces: nonces}
			checks(t, "empty lists", m, api.OK)
			if got := goBack(c, m, packed(header(0, 0, 0))); !got.same(gone{Raw: packed(header(0, 0, 1))}) {
				t.Errorf("empty lists: %v", got)
			}
			m.Count = 1
			checks(t, "empty lists and Count 1", m, api.ErrMemory)
		}
	}
	for _, none := range [][]byte{nil, {}, make([]byte, 0, 99)} {
		refuses(t, "no bytes", c, api.Memory{}, none, 0, api.ErrShort)
		refused(t, "no bytes", c, api.State{}, none, make([]byte, 18), api.ErrShort, 0)
		refused(t, "no tape", c, api.State{Window: api.Window{Epochs: []api.Epoch{}}}, packed(header(0, 0, 1)), none, api.ErrTape, 0)
		c.Master = none
		refuses(t, "no master", c, api.Memory{}, none, 0, api.ErrConfig)
		c = quiet(1)
	}
}

// Rule 6: asked in another order, with other calls between, each call answers the same.
func TestNothingIsKept(t *testing.T) {
	all := asks()
	var wants []answer
	for _, a := range all {
		wants = append(wants, a.answered())
	}
	for i, a := range slices.Backward(all) {
		if got := a.answered(); !got.same(wants[i]) {
			t.Errorf("%s: %v; want %v", a.name, got, wants[i])
		}
	}
}

// Rule 6: many calls at one time, over the same lists, answer as one alone does.
func TestManyAtOneTime(t *testing.T) {
	var done sync.WaitGroup
	for _, a := range asks() {
		want := a.wanted()
		for range 3 {
			done.Go(func() {
				if got := a.answered(); !got.same(want) {
					t.Errorf("%s: %v; want %v", a.name, got, want)
				}
			})
		}
	}
	done.Wait()
}

// begun: how many goroutines the program has begun so far.
func begun() int {
	sample := []metrics.Sample{{Name: "/sched/goroutines-created:goroutines"}}
	metrics.Read(sample)
	if sample[0].Value.Kind() != metrics.KindUint64 {
		return -1
	}
	return int(sample[0].Value.Uint64())
}

// Rule 7: no call begins a goroutine. The runtime begins some of its own now and then, so one count of several must be 0.
func TestNoGoroutines(t *testing.T) {
	if begun() < 0 {
		t.Skip("the runtime doesn't tell how many goroutines were begun")
	}
	for _, a := range asks() {
		var counts []int
		for range 10 {
			before := begun()
			a.answered()
			counts = append(counts, begun()-before)
		}
		if !slices.Contains(counts, 0) {
			t.Errorf("%s: %v goroutines begun", a.name, counts)
		}
	}
}

func Example() {
	c := api.Config{Master: bytes.Repeat([]byte{7}, 32), Left: 1, Span: 3, Room: 100, Den: 1, Chunks: 1, Workers: 1, Shards: 1}
	key, _ := route.Key(c.Master, 4)
	mine, _ := route.Wrap([][]byte{key}, [][16]byte{{1}}, []byte("mine"))
	yours, _ := route.Wrap([][]byte{key}, [][16]byte{{2}}, []byte("yours"))

	o, m := back.Forward(c, api.State{}, packed(header(0, 4, 1), make([]byte, 320), mine, yours), make([]byte, 24))
	fmt.Println(o.Err, m.Count, m.From, back.Check(m))

	first, _ := cell.Plain([]byte("to the first"))
	second, _ := cell.Plain([]byte("to the second"))
	raw, _, e := back.Return(c, m, packed(m.Header, first, second))
	for j, x := range read(raw).Cells {
		p, e := reply.Open([][]byte{key}, m.Nonces[j:j+1], x)
		fmt.Printf("%d: %q %d\n", j, p, e)
	}
	fmt.Println(e)
	// Output:
	// churn: error 0 3 [2 1] churn: error 0
	// 0: "" 70
	// 1: "to the second" 0
	// 2: "to the first" 0
	// churn: error 0
}
