package server_test

import (
	"fmt"
	"runtime"
	"runtime/metrics"
	"slices"
	"sync"
	"testing"
	"time"

	"churn/api"
	"churn/round"
	"churn/server"
)

// rimmed: the list in the midst of more memory, and that memory.
func rimmed[T any](list []T, around T) (inside, all []T) {
	all = slices.Concat(slices.Repeat([]T{around}, 5), list, slices.Repeat([]T{around}, 5))
	return all[5 : 5+len(list)], all
}

// over: writes over a list and its room.
func over[T any](list []T, x T) {
	list = list[:cap(list)]
	for i := range list {
		list[i] = x
	}
}

// A laid is what a server is loaded from, and all the memory in which it lies.
type laid struct {
	c api.Config
	s api.State

	master []byte // whole, with what lies ahead and in the spare room
	tags   [][][16]byte
	epochs []api.Epoch
}

func lay(c api.Config, s api.State) *laid {
	l := &laid{c: c, s: s}
	l.c.Master, l.master = rimmed(c.Master, 0xEE)
	l.s.Window.Epochs, l.epochs = rimmed(s.Window.Epochs, api.Epoch{Number: 77})
	for i, e := range l.s.Window.Epochs {
		inside, all := rimmed(e.Tags, [16]byte{0xEE})
		l.s.Window.Epochs[i].Tags = inside
		l.tags = append(l.tags, all)
	}
	return l
}

// picture: all of that memory, in other memory.
func (l *laid) picture() string { return fmt.Sprintf("%x %x %v", l.master, l.tags, l.epochs) }

func (l *laid) scribble() {
	over(l.master, 0xAB)
	for _, list := range l.tags {
		over(list, [16]byte{0xAB})
	}
	over(l.epochs, api.Epoch{Number: -5})
}

// twoEpochs: a state whose window holds tags of two epochs.
func twoEpochs() api.State {
	s := must(server.Load(config(), held(3)))
	s.Round(server.ByMix, packed(header(5, 10), others[:2]...), loud(300, 2540), nil)
	return s.State()
}

// Rule 5: what Load is handed stays as it is, in a round behind it too, and isn't kept: changed behind the call or behind a round, it shows in no round and no state.
func TestLoadKeepsCopies(t *testing.T) {
	for _, state := range []api.State{{Next: 5, Window: api.Window{Newest: 9}}, held(3), twoEpochs()} {
		for changed := range int64(3) {
			l := lay(config(), state)
			before := l.picture()
			p := newPair(t, l.c, l.s)
			p.m.c = config()
			for n := range int64(4) {
				if n <= changed && l.picture() != before {
					t.Errorf("ahead of round %d what was handed to Load has changed", n)
				}
				if n >= changed {
					l.scribble()
				}
				p.sameState("what was handed in has changed")
				if o := p.round(int(n%3), packed(header(10+n, 9+n%2), cells[n], cells[399-n], others[n]), loud(300, n)); o.Err != api.OK {
					t.Errorf("round %d: %s", n, told(o))
				}
			}
		}
	}
}

// Rule 5: New keeps a copy of the configuration too.
func TestNewKeepsACopy(t *testing.T) {
	l := lay(config(), api.State{})
	s, e := server.New(l.c)
	l.scribble()
	raw := packed(header(0, 9), cells[:3]...)
	want := round.Mix(config(), api.State{}, raw, loud(300, 2541))
	if o := s.Round(server.ByMix, raw, loud(300, 2541), nil); e != api.OK || o.Report.Malformed != 0 || !sameOutcome(o, want) {
		t.Errorf("error %d, %s; want %s", e, told(o), told(want))
	}
}

// scribbleState: writes over all lists of a state, and their room.
func scribbleState(s api.State) {
	for _, e := range s.Window.Epochs {
		over(e.Tags, [16]byte{0xCD})
	}
	over(s.Window.Epochs, api.Epoch{Number: -3})
}

// Rule 5: State answers a copy, each time another one: written over it shows neither in the server nor in another copy.
func TestStateIsACopy(t *testing.T) {
	s := must(server.Load(config(), twoEpochs()))
	other := s.State()
	for k := range 3 {
		x := s.State()
		switch k {
		case 0:
			over(x.Window.Epochs[0].Tags, [16]byte{0xCD})
			x.Window.Epochs[0].Tags = twoEpochs().Window.Epochs[0].Tags
		case 1:
			over(x.Window.Epochs[1].Tags, [16]byte{0xCD})
			x.Window.Epochs[1].Tags = twoEpochs().Window.Epochs[1].Tags
		case 2:
			over(x.Window.Epochs, api.Epoch{})
			x = twoEpochs()
		}
		if !sameState(x, twoEpochs()) || !sameState(s.State(), twoEpochs()) || !sameState(other, twoEpochs()) {
			t.Errorf("list %d written over shows elsewhere", k)
		}
	}
}

// Rule 5: outcomes, refused or not, share no memory with the server or with one another.
func TestOutcomesAreApart(t *testing.T) {
	for engine := range 5 {
		p := newPair(t, config(), twoEpochs())
		for n := range int64(6) {
			raw, tape := packed(header(20+n, 10), others[n], others[n+1]), loud(300, n)
			if n%3 == 2 {
				tape = nil
			}
			before := p.s.State()
			var o api.Outcome
			if engine < 4 { // 3 is none
				o = p.round(engine, raw, tape, 1)
			} else {
				p.put(raw)
				o = p.finish(tape)
			}
			want := api.Outcome{Out: slices.Clone(o.Out), State: copied(o.State), Report: o.Report, Err: o.Err}
			over(o.Out, 0xCD)
			if !sameState(o.State, want.State) {
				t.Errorf("engine %d: Out written over shows in the outcome's state", engine)
			}
			scribbleState(o.State)
			if !sameState(p.s.State(), want.State) || o.Err != api.OK && !sameState(before, want.State) {
				t.Errorf("engine %d, round %d: an outcome written over shows in the server: %s; want %s", engine, n, stateTold(p.s.State()), stateTold(want.State))
			}
		}
	}
}

// Rule 5: the bytes, the tape, the script and the pieces stay as they are, what lies about them and in their spare room too, and aren't kept.
func TestArgumentsAreNotKept(t *testing.T) {
	script := []int{5, -3, 1, 1 << 40}
	for _, spoiled := range append(spoilings(), spoiling{what: "nothing", raw: packed(header(6, 9), cells[:5]...), tape: loud(300, 2542)}) {
		for engine := range 5 {
			p := newPair(t, config(), held(60))
			raw, wholeRaw := rimmed(spoiled.raw, 0xEE)
			tape, wholeTape := rimmed(spoiled.tape, 0xEE)
			numbers, wholeScript := rimmed(script, 0xEE)
			before := fmt.Sprintf("%x %x %v", wholeRaw, wholeTape, wholeScript)
			want := p.m.round(engine%4, spoiled.raw, spoiled.tape)
			var o api.Outcome
			if engine < 4 {
				o = p.s.Round(engine, raw, tape, numbers)
			} else {
				want = round.Mix(config(), held(60), spoiled.raw, spoiled.tape)
				p.s.Put(raw[:len(raw)/2])
				p.s.Put(raw[len(raw)/2:])
				o = p.s.Finish(tape)
			}
			if fmt.Sprintf("%x %x %v", wholeRaw, wholeTape, wholeScript) != before {
				t.Errorf("%s by %d: what was handed in was changed", spoiled.what, engine)
			}
			over(wholeRaw, 0xAB)
			over(wholeTape, 0xAB)
			over(wholeScript, 0xAB)
			if !sameOutcome(o, want) || !sameState(p.s.State(), want.State) {
				t.Errorf("%s by %d, written over: %s; want %s", spoiled.what, engine, told(o), told(want))
			}
		}
	}
}

// Rule 5: a piece that is changed behind Put, each time in the same memory, shows not in what was put.
func TestPiecesAreNotKept(t *testing.T) {
	raw, tape := packed(header(6, 9), cells[:5]...), loud(300, 2543)
	want := round.Mix(config(), held(3), raw, tape)
	for _, size := range []int{1, 50, 322, len(raw)} {
		s := must(server.Load(config(), held(3)))
		buffer := make([]byte, size, size+9)
		for _, piece := range inPiecesOf(raw, size) {
			n := copy(buffer, piece)
			s.Put(buffer[:n])
			if !slices.Equal(buffer[:n], piece) || !slices.Equal(buffer[size:size+9], make([]byte, 9)) {
				t.Errorf("a piece of %d was changed", n)
			}
			over(buffer, 0)
		}
		over(buffer, 0xAB)
		if o := s.Finish(tape); want.Err != api.OK || !sameOutcome(o, want) {
			t.Errorf("pieces of %d: %s; want %s", size, told(o), told(want))
		}
	}
}

// Rule 6: servers know nothing of one another: many of them played at one time in turns, each goes its own way.
func TestServersAreApart(t *testing.T) {
	l := newLot(2544)
	var pairs []*pair
	for n := range 6 {
		c := config()
		c.Chunks, c.Room, c.Span = 1+n%3, 20+n, 1+n%3
		pairs = append(pairs, newPair(t, c, api.State{}))
	}
	for range fewer(200) {
		p := pairs[l.Intn(len(pairs))]
		switch l.Intn(3) {
		case 0:
			p.put(l.pieces(l.batch(p.m.s), 800)...)
		case 1:
			p.finish(l.tape())
		default:
			p.round(l.Intn(4), l.batch(p.m.s), l.tape(), l.script()...)
		}
	}
}

// Rule 6: servers of the same configuration and state, each in a goroutine of its own, come to the same.
func TestServersAtOneTime(t *testing.T) {
	c, s := config(), held(3)
	row := newLot(2545).row(c, s, 12)
	var done sync.WaitGroup
	for hand := range 6 {
		done.Add(1)
		go func() {
			defer done.Done()
			own := must(server.Load(c, s))
			for n, x := range row {
				if o := own.Round((hand+n)%3, x.raw, x.tape, []int{hand}); !sameOutcome(o, x.o) {
					t.Errorf("hand %d, round %d: %s; want %s", hand, n, told(o), told(x.o))
				}
			}
		}()
	}
	done.Wait()
}

// Rule 4: nil and empty lists are one and the same.
func TestNilAndEmpty(t *testing.T) {
	state := api.State{Next: 5, Window: api.Window{Newest: 9, Epochs: []api.Epoch{}}}
	raw, tape := packed(header(5, 9), cells[0]), loud(300, 2546)
	for _, engine := range engines {
		first, second := newPair(t, config(), state), newPair(t, config(), api.State{Next: 5, Window: api.Window{Newest: 9}})
		for _, x := range [][2][]byte{{nil, nil}, {{}, {}}, {raw, nil}, {raw, {}}, {raw, tape}} {
			o, p := first.s.Round(engine, x[0], x[1], nil), second.s.Round(engine, x[0], x[1], []int{})
			if !sameOutcome(o, p) {
				t.Errorf("engine %d: %s; %s", engine, told(o), told(p))
			}
		}
	}
}

// begun: how many goroutines the program has begun so far.
func begun() int {
	sample := []metrics.Sample{{Name: "/sched/goroutines-created:goroutines"}}
	metrics.Read(sample)
	if sample[0].Value.Kind() != metrics.KindUint64 {
		return -1
	}
	return int(sample[0].Value.Uint64())
}

// Rule 7: goroutines play a round ByCrew and through Finish, and no other. The runtime begins some of its own now and then, so one count of several must fit.
func TestWhoBeginsGoroutines(t *testing.T) {
	if begun() < 0 {
		t.Skip("the runtime doesn't tell how many goroutines were begun")
	}
	raw, tape := packed(header(5, 9), cells[:5]...), loud(300, 2547)
	byCrew := 3 + 3 + 3 // so many peel, so many look which tags stand first, and one shuffles each chunk
	for engine, want := range []int{0, byCrew, 0, 0, byCrew} {
		var counts []int
		for range 10 {
			s := must(server.Load(config(), held(3)))
			s.Put(raw)
			before := begun()
			if engine < 4 {
				s.Round(engine, raw, tape, nil)
			} else {
				s.Finish(tape)
			}
			counts = append(counts, begun()-before)
		}
		if !slices.Contains(counts, want) {
			t.Errorf("engine %d: %v goroutines begun; want %d", engine, counts, want)
		}
	}
}

// Rule 7: all goroutines have ended when a round answers, refused or not. (The last one may still be on its way out, so there is a little patience.)
func TestGoroutinesHaveEnded(t *testing.T) {
	before := runtime.NumGoroutine()
	for _, x := range append(spoilings(), spoiling{what: "nothing", raw: packed(header(6, 9), cells[:5]...), tape: loud(300, 2548)}) {
		for engine := range 4 {
			x.behind(engine)
		}
		for range 2000 {
			if runtime.NumGoroutine() <= before {
				break
			}
			time.Sleep(time.Millisecond)
		}
		if after := runtime.NumGoroutine(); after > before {
			t.Fatalf("%s: %d goroutines ahead of it, %d behind it", x.what, before, after)
		}
	}
}
