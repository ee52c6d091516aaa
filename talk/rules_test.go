package talk_test

import (
	"bytes"
	"fmt"
	"runtime"
	"runtime/metrics"
	"slices"
	"sync"
	"testing"
	"time"

	"churn/api"
	"churn/cascade"
	"churn/drop"
	"churn/frame"
	"churn/talk"
)

// rimmed: the list in the midst of more memory, and that memory.
func rimmed[T any](list []T, around T) (inside, all []T) {
	all = slices.Concat(slices.Repeat([]T{around}, 5), list, slices.Repeat([]T{around}, 5))
	return all[5 : 5+len(list)], all
}

// over: writes over a list and its room.
func over[T any](list []T, x T) {
	list = list[:cap(list)]
	for i := range list {
		list[i] = x
	}
}

// A handed is what Ask or Hear is handed in, with the memory in which it lies.
type handed struct {
	masters [][]byte
	nonces  [][16]byte
	bytes   []byte // the message, or the cell

	outer, inner [][]byte
	around       [][16]byte
}

func hand(masters [][]byte, nonces [][16]byte, p []byte) *handed {
	h := &handed{}
	h.masters, h.outer = rimmed(masters, []byte("around"))
	for i, m := range h.masters {
		h.masters[i] = h.keep(m)
	}
	h.nonces, h.around = rimmed(nonces, [16]byte{0xEE})
	h.bytes = h.keep(p)
	return h
}

func (h *handed) keep(p []byte) []byte {
	inside, all := rimmed(p, 0xEE)
	h.inner = append(h.inner, all)
	return inside
}

// picture: all of that memory, in other memory.
func (h *handed) picture() string { return fmt.Sprintf("%x %x %x", h.outer, h.inner, h.around) }

func (h *handed) scribble() {
	for _, p := range h.inner {
		over(p, 0xAB)
	}
	over(h.outer, []byte("scribbled"))
	over(h.around, [16]byte{0xAB})
}

// A call is one of Ask or Hear, with what it is handed in.
type call struct {
	what    string
	masters [][]byte
	nonces  [][16]byte
	bytes   []byte
	ask     func(masters [][]byte, nonces [][16]byte, p []byte) (int, []byte, api.Errno)
}

func askedOf(epoch int64) func([][]byte, [][16]byte, []byte) (int, []byte, api.Errno) {
	return func(masters [][]byte, nonces [][16]byte, p []byte) (int, []byte, api.Errno) {
		c, e := talk.Ask(masters, epoch, nonces, [8]byte([]byte("room0001")), p)
		return 0, c, e
	}
}

func heardOf(epoch int64) func([][]byte, [][16]byte, []byte) (int, []byte, api.Errno) {
	return func(masters [][]byte, nonces [][16]byte, p []byte) (int, []byte, api.Errno) {
		return talk.Hear(masters, epoch, nonces, p)
	}
}

// calls: such as are taken, and such as are refused at each step.
func calls() []call {
	short := with(masters(3), 2, make([]byte, 31))
	return []call{
		{"Ask", masters(3), nonces(3, 1), []byte("hi"), askedOf(5)},
		{"Ask of no message", masters(8), nonces(8, 1), nil, askedOf(5)},
		{"Ask of a long message", masters(3), nonces(3, 1), make([]byte, 41), askedOf(5)},
		{"Ask with a short key", short, nonces(3, 1), []byte("hi"), askedOf(5)},
		{"Ask in no epoch", masters(3), nonces(3, 1), []byte("hi"), askedOf(-1)},
		{"Ask with too few nonces", masters(3), nonces(2, 1), []byte("hi"), askedOf(5)},
		{"Hear", masters(3), nonces(3, 1), answered(3, 5, 1, "\x01ho"), heardOf(5)},
		{"Hear of one alone", masters(8), nonces(8, 1), answered(8, 5, 1, "\x00"), heardOf(5)},
		{"Hear of the longest message", masters(1), nonces(1, 1), answered(1, 5, 1, "\x01"+string(some(40, 1))), heardOf(5)},
		{"Hear of no answer", masters(3), nonces(3, 1), answered(3, 5, 1, "\x01"+string(some(41, 1))), heardOf(5)},
		{"Hear of noughts", masters(3), nonces(3, 1), noughts, heardOf(5)},
		{"Hear of no cell", masters(3), nonces(3, 1), noughts[:319], heardOf(5)},
		{"Hear with a short key", short, nonces(3, 1), noughts, heardOf(5)},
		{"Hear with too few nonces", masters(3), nonces(2, 1), noughts, heardOf(5)},
		{"Hear in no epoch", masters(3), nonces(3, 1), noughts, heardOf(-1)},
	}
}

// Rules 3 and 5: what Ask and Hear are handed stays as it is, what lies about it and in its spare room too; it isn't kept, and shares no memory with an answer; nor do two answers.
func TestAskAndHearMemory(t *testing.T) {
	for _, x := range calls() {
		how, want, e := x.ask(x.masters, x.nonces, x.bytes)
		want = bytes.Clone(want)
		if e != api.OK && (how != 0 || len(want) != 0) {
			t.Errorf("%s: %d and %x beside error %d", x.what, how, want, e)
		}
		h := hand(x.masters, x.nonces, x.bytes)
		before := h.picture()
		how2, got, e2 := x.ask(h.masters, h.nonces, h.bytes)
		_, other, _ := x.ask(h.masters, h.nonces, h.bytes)
		if h.picture() != before || how2 != how || e2 != e {
			t.Errorf("%s: what was handed in was changed, or %d and error %d instead of %d and %d", x.what, how2, e2, how, e)
		}
		over(append(other, 1), 0xCD)
		over(other, 0xCD)
		if h.picture() != before || !bytes.Equal(got, want) {
			t.Errorf("%s: an answer written over shows elsewhere", x.what)
		}
		h.scribble()
		if _, again, _ := x.ask(x.masters, x.nonces, x.bytes); !bytes.Equal(got, want) || !bytes.Equal(again, want) {
			t.Errorf("%s: what was handed in, written over, shows in an answer", x.what)
		}
	}
}

// Rule 6: Ask and Hear keep nothing: asked in another order, and many at one time over the same lists, each answers the same.
func TestAskAndHearKeepNothing(t *testing.T) {
	var wants []string
	told := func(x call) string {
		how, p, e := x.ask(x.masters, x.nonces, x.bytes)
		return fmt.Sprintf("%d %x %d", how, p, e)
	}
	all := calls()
	for _, x := range all {
		wants = append(wants, told(x))
	}
	var done sync.WaitGroup
	for i, x := range slices.Backward(all) {
		for range 3 {
			done.Go(func() {
				if got := told(x); got != wants[i] {
					t.Errorf("%s: %s; want %s", x.what, got, wants[i])
				}
			})
		}
	}
	done.Wait()
}

// Rule 5: the configurations that New is handed stay as they are, and aren't kept: changed behind the call, or behind a round, they show in no round, there or back.
func TestNewKeepsCopies(t *testing.T) {
	a, b := client{1, "room0001", "hi"}, client{2, "room0001", "ho"}
	for behind := range 3 {
		cs, all := rimmed(configs(3), api.Config{Left: 99})
		var keys [][]byte
		for i := range cs {
			inside, whole := rimmed(cs[i].Master, 0xEE)
			cs[i].Master, keys = inside, append(keys, whole)
		}
		before := fmt.Sprintf("%v %x", all, keys)
		p := newPair(t, cs)
		p.m.cs = configs(3)
		for n := range 3 {
			if n <= behind && fmt.Sprintf("%v %x", all, keys) != before {
				t.Errorf("ahead of round %d what was handed to New has changed", n)
			}
			if n >= behind {
				for _, key := range keys {
					over(key, 0xAB)
				}
				over(all, api.Config{Left: 1, Span: 8})
			}
			a.k, b.k = 2*n, 2*n+1
			back := p.through(n, entry(int64(n), 5, 3, cells(3, 5, a, b)...), loud(3, 200, 3500))
			a.hears(t, 3, 5, back[0], drop.Met, "ho")
			b.hears(t, 3, 5, back[1], drop.Met, "hi")
		}
	}
	cs, all := rimmed(changed(3, 2, func(c *api.Config) { c.Left = 5 }), api.Config{Left: 99})
	before := fmt.Sprint(all)
	if r, e := talk.New(cs); r != nil || e != api.ErrHop || fmt.Sprint(all) != before {
		t.Errorf("error %d, or what was handed in was changed", e)
	}
}

// Rule 5: the bytes, the tapes and the script of a round stay as they are, what lies about them too, and aren't kept; with a round that goes through and with such as are refused at each server.
func TestRoundMemory(t *testing.T) {
	batch := append(cells(3, 5, client{1, "room0001", "hi"}, client{2, "room0001", "ho"}, client{1, "room0001", "hi"}), noughts)
	for engine := range 4 {
		for n := range 5 { // so many tapes
			p := newPair(t, configs(3))
			raw, tapes := entry(8, 5, 3, batch...), loud(n, 200, 3501)
			want, wanted := p.m.round(engine, raw, tapes)
			inside, whole := rimmed(raw, 0xEE)
			script, numbers := rimmed([]int{5, -3, 1, 1 << 40}, 0xEE)
			h := hand(tapes, nil, inside)
			picture := func() string { return fmt.Sprintf("%s %x %v", h.picture(), whole, numbers) }
			before := picture()
			list, comes := p.r.Round(engine, inside, h.masters, script)
			if picture() != before {
				t.Errorf("%d tapes by %d: what was handed in was changed", n, engine)
			}
			h.scribble()
			over(whole, 0xAB)
			over(numbers, 0xAB)
			if !sameOutcomes(list, want) || !bytes.Equal(comes, wanted) {
				t.Errorf("%d tapes by %d, written over:%s\nwant:%s", n, engine, told(list), told(want))
			}
			p.round(0, entry(9, 5, 3, batch...), loud(3, 200, 3502)) // nor in what is kept
		}
	}
}

// scribble: writes over all lists of an outcome, and their room.
func scribble(o api.Outcome) {
	over(o.Out, 0xCD)
	for _, e := range o.State.Window.Epochs {
		over(e.Tags, [16]byte{0xCD})
	}
	over(o.State.Window.Epochs, api.Epoch{Number: -3})
}

// Rule 5: what a round answers shares no memory: outcomes none with one another, with what comes back, with the answers of other rounds, or with what is kept.
func TestAnswersAreApart(t *testing.T) {
	for engine := range 4 {
		p := newPair(t, configs(3))
		p.round(0, entry(1, 4, 3, client{100, "room0009", ""}.cell(3, 4)), loud(3, 200, 3503))
		var earlier, kept []api.Outcome
		var earlierBack, keptBack []byte
		for n := range 6 {
			tapes := loud(3, 200, int64(n))
			raw := entry(int64(10+n), 5, 3, cells(3, 5, client{n, "room0001", "hi"}, client{n + 1, "room0001", "ho"})...)
			list, comes := p.round(engine, raw, tapes[:3-n%3])
			if !sameOutcomes(earlier, kept) || !bytes.Equal(earlierBack, keptBack) {
				t.Errorf("engine %d, round %d: answers of the round ahead have changed", engine, n)
			}
			wanted := bytes.Clone(comes)
			for i, o := range list {
				others := slices.Delete(slices.Clone(list), i, i+1)
				want := copiedAll(others)
				scribble(o)
				if !sameOutcomes(others, want) || !bytes.Equal(comes, wanted) {
					t.Errorf("engine %d, round %d: outcome %d written over shows in another one, or in what comes back", engine, n, i)
				}
			}
			want := copiedAll(list)
			over(append(comes, 1), 0xCD)
			over(comes, 0xCD)
			if !sameOutcomes(list, want) {
				t.Errorf("engine %d, round %d: what comes back written over shows in an outcome", engine, n)
			}
			over(list, api.Outcome{Err: 99})
			earlier, earlierBack = p.round(engine, entry(int64(10+n), 5, 3, noughts), tapes) // held against the model: nothing shows in what is kept
			kept, keptBack = copiedAll(earlier), bytes.Clone(earlierBack)
		}
	}
}

// Rule 5: what is handed in may share memory, with itself and with an earlier answer.
func TestSharedArguments(t *testing.T) {
	a, b := client{1, "room0001", "hi"}, client{2, "room0001", "ho"}
	for engine := range 3 {
		p := newPair(t, configs(2))
		raw := entry(8, 5, 2, cells(2, 5, a, b)...)
		before := bytes.Clone(raw)
		list, comes := p.round(engine, raw, [][]byte{raw, raw[100:]})
		if !bytes.Equal(raw, before) || len(comes) == 0 {
			t.Errorf("engine %d: the bytes as the tapes: they have changed, or%s", engine, told(list))
		}
		p.round(engine, comes, [][]byte{list[0].Out, list[1].Out}) // what came back, as a batch: of a round that is over
		p.round(engine, entry(9, 5, 2, read(comes).Cells...), [][]byte{comes, comes})
	}
}

// Rule 6: talks know nothing of one another: several of them played in turns, each goes its own way.
func TestTalksAreApart(t *testing.T) {
	l := newLot(3504)
	var pairs []*pair
	for hops := 1; hops <= 4; hops++ {
		cs := l.varied(hops)
		pairs = append(pairs, newPair(t, cs), newPair(t, cs))
	}
	for range fewer(120) {
		p := pairs[l.Intn(len(pairs))]
		hops := len(p.m.cs)
		p.round(l.Intn(4), l.batch(hops, p.m.states[0]), l.tapes(hops), l.script()...)
	}
}

// Rules 6 and 7: talks of the same configurations, each in a goroutine of its own, come to the same.
func TestTalksAtOneTime(t *testing.T) {
	cs, tapes := configs(3), loud(3, 200, 3505)
	var raws, backs [][]byte
	var wants [][]api.Outcome
	m := newModel(cs)
	for n := range 4 {
		raws = append(raws, entry(int64(n), 5, 3, cells(3, 5, client{2 * n, "room0001", "hi"}, client{2*n + 1, "room0001", "ho"}, client{max(0, 2*n-1), "room0002", ""})...))
		want, wanted := m.round(0, raws[n], tapes[:3-n%2])
		wants, backs = append(wants, want), append(backs, wanted)
	}
	var done sync.WaitGroup
	for hand := range 6 {
		done.Go(func() {
			r := must(talk.New(cs))
			for n, raw := range raws {
				list, comes := r.Round((hand+n)%3, raw, tapes[:3-n%2], []int{hand})
				if !sameOutcomes(list, wants[n]) || !bytes.Equal(comes, backs[n]) {
					t.Errorf("hand %d, round %d:%s\nwant:%s", hand, n, told(list), told(wants[n]))
				}
			}
		})
	}
	done.Wait()
}

// Rule 4: nil and empty lists are one and the same.
func TestNilAndEmpty(t *testing.T) {
	name := [8]byte([]byte("room0001"))
	a, e := talk.Ask(masters(2), 5, nonces(2, 1), name, nil)
	b, e2 := talk.Ask(masters(2), 5, nonces(2, 1), name, []byte{})
	if e != api.OK || e2 != api.OK || !bytes.Equal(a, b) {
		t.Errorf("messages of no bytes: errors %d and %d", e, e2)
	}
	for _, none := range [][][]byte{nil, {}} {
		for _, nonces := range [][][16]byte{nil, {}} {
			deaf(t, "no hops", none, 5, nonces, nil, api.ErrChain)
			checkAsk(t, "no hops", none, 5, nonces, "room0001", "", api.ErrChain)
		}
		deaf(t, "no cell", masters(1), 5, nonces(1, 1), []byte{}, api.ErrSize)
	}
	raw := entry(1, 2, 2)
	for _, engine := range engines {
		for _, x := range [][2][][]byte{{nil, {}}, {{nil}, {{}}}, {{make([]byte, 18), nil}, {make([]byte, 18)}}} {
			first, comes := newPair(t, configs(2)).round(engine, raw, x[0])
			second, comes2 := newPair(t, configs(2)).r.Round(engine, raw, x[1], []int{})
			if !sameOutcomes(first, second) || !bytes.Equal(comes, comes2) {
				t.Errorf("engine %d:%s\nand:%s", engine, told(first), told(second))
			}
		}
		newPair(t, configs(2)).refused(engine, nil, nil, 0, api.ErrShort)
		newPair(t, configs(2)).refused(engine, []byte{}, nil, 0, api.ErrShort)
	}
}

// begun: how many goroutines the program has begun so far.
func begun() int {
	sample := []metrics.Sample{{Name: "/sched/goroutines-created:goroutines"}}
	metrics.Read(sample)
	if sample[0].Value.Kind() != metrics.KindUint64 {
		return -1
	}
	return int(sample[0].Value.Uint64())
}

// Rule 7: a round ByCrew alone has goroutines at work, and no other call. The runtime begins some of its own now and then, so one count of several must fit.
func TestWhoBeginsGoroutines(t *testing.T) {
	if begun() < 0 {
		t.Skip("the runtime doesn't tell how many goroutines were begun")
	}
	raw := entry(8, 5, 2, cells(2, 5, client{1, "room0001", "hi"}, client{2, "room0001", "ho"})...)
	tapes := loud(2, 200, 3506)
	all := []func(){func() { must(talk.New(configs(2))) }}
	for _, x := range calls() {
		all = append(all, func() { x.ask(x.masters, x.nonces, x.bytes) })
	}
	wants := make([]int, len(all))
	for engine := range 4 {
		all = append(all, func() { must(talk.New(configs(2))).Round(engine, raw, tapes, nil) })
		wants = append(wants, map[bool]int{true: 2 * (3 + 3 + 2)}[engine == 1]) // at each server so many peel, so many look which tags stand first, and one shuffles each chunk; none on the way back
	}
	for i, call := range all {
		var counts []int
		for range 10 {
			before := begun()
			call()
			counts = append(counts, begun()-before)
		}
		if !slices.Contains(counts, wants[i]) {
			t.Errorf("call %d: %v goroutines begun; want %d", i, counts, wants[i])
		}
	}
}

// Rule 7: all goroutines have ended when a round answers, refused or not. (The last one may still be on its way out, so there is a little patience.)
func TestGoroutinesHaveEnded(t *testing.T) {
	before := runtime.NumGoroutine()
	raw := entry(8, 5, 3, cells(3, 5, client{1, "room0001", "hi"}, client{2, "room0001", "ho"})...)
	tapes := loud(3, 200, 3507)
	for n := range 4 {
		for engine := range 4 {
			must(talk.New(configs(3))).Round(engine, raw, tapes[:n], nil)
		}
		for range 2000 {
			if runtime.NumGoroutine() <= before {
				break
			}
			time.Sleep(time.Millisecond)
		}
		if after := runtime.NumGoroutine(); after > before {
			t.Fatalf("%d tapes: %d goroutines ahead of it, %d behind it", n, before, after)
		}
	}
}

func Example() {
	var configs []api.Config
	var masters [][]byte
	for i := range 2 {
		master := bytes.Repeat([]byte{byte(7 + i)}, 32)
		masters = append(masters, master)
		configs = append(configs, api.Config{Master: master, Left: 2 - i, Span: 3, Room: 100, Den: 1, Chunks: 1, Workers: 1, Shards: 1})
	}
	r, _ := talk.New(configs)
	room := [8]byte([]byte("room0001"))
	mine, yours := [][16]byte{{1}, {2}}, [][16]byte{{3}, {4}}
	first, _ := talk.Ask(masters, 4, mine, room, []byte("hi"))
	second, _ := talk.Ask(masters, 4, yours, room, []byte("ho"))

	raw, _ := cascade.Entry(6, 4, 2, [][]byte{first, second})
	outcomes, back := r.Round(1, raw, [][]byte{make([]byte, 200), make([]byte, 200)}, nil)
	fmt.Println(len(outcomes), outcomes[1].Report.Out)

	batch, _, _ := frame.Read(back)
	how, message, e := talk.Hear(masters, 4, mine, batch.Cells[0])
	fmt.Println(how == drop.Met, string(message), e)
	how, message, e = talk.Hear(masters, 4, yours, batch.Cells[1])
	fmt.Println(how == drop.Met, string(message), e)
	// Output:
	// 2 2
	// true ho churn: error 0
	// true hi churn: error 0
}
