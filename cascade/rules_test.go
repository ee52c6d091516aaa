package cascade_test

import (
	"bytes"
	"fmt"
	"runtime"
	"runtime/metrics"
	"slices"
	"sync"
	"testing"
	"time"

	"churn/api"
	"churn/cascade"
)

// rimmed: the list in the midst of more memory, and that memory.
func rimmed[T any](list []T, around T) (inside, all []T) {
	all = slices.Concat(slices.Repeat([]T{around}, 5), list, slices.Repeat([]T{around}, 5))
	return all[5 : 5+len(list)], all
}

// over: writes over a list and its room.
func over[T any](list []T, x T) {
	list = list[:cap(list)]
	for i := range list {
		list[i] = x
	}
}

// A laid is a list of byte lists, and all the memory in which they lie.
type laid struct {
	list  [][]byte
	outer [][]byte // whole, with what lies ahead and in the spare room
	inner [][]byte
}

func lay(list [][]byte) *laid {
	l := &laid{}
	l.list, l.outer = rimmed(list, []byte("around"))
	for i, p := range l.list {
		inside, all := rimmed(p, 0xEE)
		l.list[i], l.inner = inside, append(l.inner, all)
	}
	return l
}

// picture: all of that memory, in other memory.
func (l *laid) picture() string { return fmt.Sprintf("%x %x", l.outer, l.inner) }

func (l *laid) scribble() {
	for _, p := range l.inner {
		over(p, 0xAB)
	}
	over(l.outer, []byte("scribbled"))
}

// Rule 5: what Submit is handed stays as it is, what lies about it and in its spare room too, and shares no memory with the cell; nor do two cells.
func TestSubmitMemory(t *testing.T) {
	for _, wrong := range []bool{false, true} {
		keys, nonceList, want := masters(3), nonces(3, 1), sent(3, 5, 1)
		if wrong {
			keys[2], want = keys[2][:31], nil
		}
		m := lay(keys)
		inside, all := rimmed(nonceList, [16]byte{0xEE})
		p, whole := rimmed(payload(1), 0xEE)
		picture := func() string { return fmt.Sprintf("%s %x %x", m.picture(), all, whole) }
		before := picture()
		c, e := cascade.Submit(m.list, 5, inside, p)
		d, _ := cascade.Submit(m.list, 5, inside, p)
		if picture() != before || (e != api.OK) != wrong {
			t.Errorf("what was handed in was changed, or error %d", e)
		}
		over(d, 0xCD)
		if picture() != before || !bytes.Equal(c, want) {
			t.Error("a cell written over shows elsewhere")
		}
		m.scribble()
		over(all, [16]byte{0xAB})
		over(whole, 0xAB)
		if !bytes.Equal(c, want) {
			t.Error("what was handed in, written over, shows in the cell")
		}
	}
}

// Rule 5: so it is with Entry.
func TestEntryMemory(t *testing.T) {
	for _, cells := range [][][]byte{nil, sentAll(2, 5, 0, 3), {make([]byte, 320), make([]byte, 319)}} {
		want, e := cascade.Entry(8, 5, 2, cells)
		l := lay(cells)
		before := l.picture()
		raw, e2 := cascade.Entry(8, 5, 2, l.list)
		other, _ := cascade.Entry(8, 5, 2, l.list)
		over(other, 0xCD)
		if l.picture() != before || e != e2 || !bytes.Equal(raw, want) {
			t.Errorf("%d cells: what was handed in or another answer was changed", len(cells))
		}
		l.scribble()
		if !bytes.Equal(raw, want) {
			t.Errorf("%d cells, written over, show in the bytes", len(cells))
		}
	}
}

// Rule 5: the configurations that New is handed stay as they are, and aren't kept: changed behind the call, or behind a round, they show in no round.
func TestNewKeepsCopies(t *testing.T) {
	for behind := range 3 {
		cs, all := rimmed(configs(3), api.Config{Left: 99})
		var keys [][]byte
		for i := range cs {
			inside, whole := rimmed(cs[i].Master, 0xEE)
			cs[i].Master, keys = inside, append(keys, whole)
		}
		before := fmt.Sprintf("%v %x", all, keys)
		p := newPair(t, cs)
		p.m.cs = configs(3)
		for n := range 3 {
			if n <= behind && fmt.Sprintf("%v %x", all, keys) != before {
				t.Errorf("ahead of round %d what was handed to New has changed", n)
			}
			if n >= behind {
				for _, key := range keys {
					over(key, 0xAB)
				}
				over(all, api.Config{Left: 1, Span: 8})
			}
			list := p.round(n, entry(int64(n), 5, 3, sent(3, 5, n)), loud(3, 200, 2580))
			if !through(list, 3) || !slices.Equal(out(t, list), expected(n)) {
				t.Errorf("round %d, changed ahead of round %d:%s", n, behind, told(list))
			}
		}
	}
}

// Rule 5: New leaves what it refuses as it is too.
func TestNewRefusedMemory(t *testing.T) {
	cs, all := rimmed(changed(3, 2, func(c *api.Config) { c.Left = 5 }), api.Config{Left: 99})
	before := fmt.Sprint(all)
	if c, e := cascade.New(cs); c != nil || e != api.ErrHop || fmt.Sprint(all) != before {
		t.Errorf("error %d, or what was handed in was changed", e)
	}
}

// Rule 5: the bytes, the tapes and the script of a round stay as they are, what lies about them too, and aren't kept; with a round that goes through and with such as are refused at each server.
func TestRoundMemory(t *testing.T) {
	for _, engine := range append(slices.Clone(engines), 3) {
		for n := range 5 { // so many tapes
			p := newPair(t, configs(3))
			raw := entry(8, 5, 3, append(sentAll(3, 5, 0, 3), sent(3, 5, 1))...)
			tapes := loud(n, 200, 2581)
			want := p.m.round(engine, raw, tapes)
			l := lay(tapes)
			inside, whole := rimmed(raw, 0xEE)
			script, numbers := rimmed([]int{5, -3, 1, 1 << 40}, 0xEE)
			picture := func() string { return fmt.Sprintf("%s %x %v", l.picture(), whole, numbers) }
			before := picture()
			list := p.c.Round(engine, inside, l.list, script)
			if picture() != before {
				t.Errorf("%d tapes by %d: what was handed in was changed", n, engine)
			}
			l.scribble()
			over(whole, 0xAB)
			over(numbers, 0xAB)
			if !sameOutcomes(list, want) {
				t.Errorf("%d tapes by %d, written over:%s\nwant:%s", n, engine, told(list), told(want))
			}
			p.round(0, entry(9, 5, 3, sentAll(3, 5, 2, 5)...), loud(3, 200, 2582)) // nor in what is kept
		}
	}
}

// scribble: writes over all lists of an outcome, and their room.
func scribble(o api.Outcome) {
	over(o.Out, 0xCD)
	for _, e := range o.State.Window.Epochs {
		over(e.Tags, [16]byte{0xCD})
	}
	over(o.State.Window.Epochs, api.Epoch{Number: -3})
}

// Rule 5: outcomes share no memory with one another, with the outcomes of other rounds, or with what is kept.
func TestOutcomesAreApart(t *testing.T) {
	for _, engine := range append(slices.Clone(engines), 3) {
		p := newPair(t, configs(3))
		p.round(0, entry(1, 4, 3, sent(3, 4, 0)), loud(3, 200, 2583))
		var earlier, kept []api.Outcome
		for n := range 6 {
			tapes := loud(3, 200, int64(n))
			list := p.round(engine, entry(int64(10+n), 5, 3, sent(3, 5, n), sent(3, 5, n+1)), tapes[:3-n%3])
			if !sameOutcomes(earlier, kept) {
				t.Errorf("engine %d, round %d: outcomes of the round ahead have changed", engine, n)
			}
			for i, o := range list {
				others := slices.Delete(slices.Clone(list), i, i+1)
				want := copiedAll(others)
				scribble(o)
				if !sameOutcomes(others, want) {
					t.Errorf("engine %d, round %d: outcome %d written over shows in another one", engine, n, i)
				}
			}
			over(list, api.Outcome{Err: 99})
			earlier = p.round(engine, entry(int64(10+n), 5, 3), tapes) // held against the model: nothing shows in what is kept
			kept = copiedAll(earlier)
		}
	}
}

// Rule 5: the bytes that Payloads is handed stay as they are, and the payloads are memory of their own, each apart from the others.
func TestPayloadsMemory(t *testing.T) {
	for _, cells := range [][][]byte{{plain("one"), plain("two"), make([]byte, 320), plain(""), plain("one")}, {plain("one"), noPad}} {
		raw, whole := rimmed(lastOut(cells...), 0xEE)
		before := slices.Clone(whole)
		list, e := cascade.Payloads(raw)
		want, e2 := cascade.Payloads(raw)
		if !bytes.Equal(whole, before) || e != e2 {
			t.Errorf("errors %d and %d, or what was handed in was changed", e, e2)
		}
		for i := range list {
			over(list[i], 0xCD)
			for j := i + 1; j < len(list); j++ {
				if !bytes.Equal(list[j], want[j]) {
					t.Errorf("payload %d written over shows in payload %d", i, j)
				}
			}
		}
		over(list, []byte("scribbled"))
		over(whole, 0xAB)
		if e == api.OK && !slices.Equal(sorted(want), []string{"", "one", "one", "two"}) {
			t.Errorf("%q", want)
		}
	}
}

// Rule 6: cascades know nothing of one another: several of them played in turns, each goes its own way.
func TestCascadesAreApart(t *testing.T) {
	l := newLot(2584)
	var pairs []*pair
	for hops := 1; hops <= 4; hops++ {
		cs := l.varied(hops)
		pairs = append(pairs, newPair(t, cs), newPair(t, cs))
	}
	for range fewer(150) {
		p := pairs[l.Intn(len(pairs))]
		hops := len(p.m.cs)
		p.round(l.Intn(4), l.batch(hops, p.m.states[0]), l.tapes(hops), l.script()...)
	}
}

// Rules 6 and 7: cascades of the same configurations, each in a goroutine of its own, come to the same.
func TestCascadesAtOneTime(t *testing.T) {
	cs, tapes := configs(3), loud(3, 200, 2585)
	var raws [][]byte
	var wants [][]api.Outcome
	m := &model{cs, make([]api.State, 3)}
	for n := range 4 {
		raws = append(raws, entry(int64(n), 5, 3, sentAll(3, 5, 2*n, 2*n+4)...))
		wants = append(wants, m.round(0, raws[n], tapes[:3-n%2]))
	}
	var done sync.WaitGroup
	for hand := range 6 {
		done.Add(1)
		go func() {
			defer done.Done()
			c := must(cascade.New(cs))
			for n, raw := range raws {
				if list := c.Round((hand+n)%3, raw, tapes[:3-n%2], []int{hand}); !sameOutcomes(list, wants[n]) {
					t.Errorf("hand %d, round %d:%s\nwant:%s", hand, n, told(list), told(wants[n]))
				}
			}
		}()
	}
	done.Wait()
}

// Rule 6: nothing is kept by the functions: the same call answers the same, whatever was called between.
func TestNothingIsKept(t *testing.T) {
	first := sent(3, 5, 1)
	raw := entry(8, 5, 3, first)
	c := must(cascade.New(configs(3)))
	list := c.Round(0, raw, loud(3, 200, 2586), nil)
	cascade.Submit(masters(2), -1, nil, nil)
	cascade.Entry(-1, 0, 0, nil)
	cascade.Payloads(nil)
	if !bytes.Equal(sent(3, 5, 1), first) || !bytes.Equal(entry(8, 5, 3, first), raw) || !sameOutcomes(must(cascade.New(configs(3))).Round(0, raw, loud(3, 200, 2586), nil), list) {
		t.Error("the same call answers something else")
	}
}

// Rule 4: nil and empty lists are one and the same.
func TestNilAndEmpty(t *testing.T) {
	a, e := cascade.Submit(masters(2), 5, nonces(2, 1), nil)
	b, e2 := cascade.Submit(masters(2), 5, nonces(2, 1), []byte{})
	if e != api.OK || e2 != api.OK || !bytes.Equal(a, b) {
		t.Errorf("payloads of no bytes: errors %d and %d", e, e2)
	}
	if !bytes.Equal(must(cascade.Entry(1, 2, 2, nil)), must(cascade.Entry(1, 2, 2, [][]byte{}))) {
		t.Error("Entry without cells")
	}
	raw := entry(1, 2, 2)
	for _, engine := range engines {
		for _, x := range [][2][][]byte{{nil, {}}, {{nil}, {{}}}, {{make([]byte, 18), nil}, {make([]byte, 18)}}} {
			first, second := newPair(t, configs(2)).round(engine, raw, x[0]), newPair(t, configs(2)).c.Round(engine, raw, x[1], []int{})
			if !sameOutcomes(first, second) {
				t.Errorf("engine %d:%s\nand:%s", engine, told(first), told(second))
			}
		}
		first, second := newPair(t, configs(2)).round(engine, nil, nil), newPair(t, configs(2)).round(engine, []byte{}, nil)
		if !sameOutcomes(first, second) {
			t.Errorf("engine %d, no bytes:%s\nand:%s", engine, told(first), told(second))
		}
	}
}

// begun: how many goroutines the program has begun so far.
func begun() int {
	sample := []metrics.Sample{{Name: "/sched/goroutines-created:goroutines"}}
	metrics.Read(sample)
	if sample[0].Value.Kind() != metrics.KindUint64 {
		return -1
	}
	return int(sample[0].Value.Uint64())
}

// Rule 7: a round ByCrew alone has goroutines at work, and no other call. The runtime begins some of its own now and then, so one count of several must fit.
func TestWhoBeginsGoroutines(t *testing.T) {
	if begun() < 0 {
		t.Skip("the runtime doesn't tell how many goroutines were begun")
	}
	raw, tapes := entry(8, 5, 2, sentAll(2, 5, 0, 5)...), loud(2, 200, 2587)
	last := lastOut(plain("one"))
	calls := []func(){
		func() { sent(2, 5, 1) },
		func() { entry(8, 5, 2) },
		func() { must(cascade.New(configs(2))) },
		func() { must(cascade.Payloads(last)) },
	}
	wants := make([]int, len(calls))
	for engine := range 4 {
		calls = append(calls, func() { must(cascade.New(configs(2))).Round(engine, raw, tapes, nil) })
		wants = append(wants, map[bool]int{true: 2 * (3 + 3 + 2)}[engine == 1]) // at each server so many peel, so many look which tags stand first, and one shuffles each chunk
	}
	for i, call := range calls {
		var counts []int
		for range 10 {
			before := begun()
			call()
			counts = append(counts, begun()-before)
		}
		if !slices.Contains(counts, wants[i]) {
			t.Errorf("call %d: %v goroutines begun; want %d", i, counts, wants[i])
		}
	}
}

// Rule 7: all goroutines have ended when a round answers, refused or not. (The last one may still be on its way out, so there is a little patience.)
func TestGoroutinesHaveEnded(t *testing.T) {
	before := runtime.NumGoroutine()
	raw, tapes := entry(8, 5, 3, sentAll(3, 5, 0, 5)...), loud(3, 200, 2588)
	for n := range 4 {
		for engine := range 4 {
			must(cascade.New(configs(3))).Round(engine, raw, tapes[:n], nil)
		}
		for range 2000 {
			if runtime.NumGoroutine() <= before {
				break
			}
			time.Sleep(time.Millisecond)
		}
		if after := runtime.NumGoroutine(); after > before {
			t.Fatalf("%d tapes: %d goroutines ahead of it, %d behind it", n, before, after)
		}
	}
}
