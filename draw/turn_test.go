package draw_test

import (
	"bytes"
	"encoding/hex"
	"fmt"
	"math"
	"math/rand"
	"slices"
	"testing"

	"churn/api"
	"churn/draw"
)

// P10.1: the chapter's examples of Turn.
func TestTurnExamples(t *testing.T) {
	got := turn([]byte{255, 254, 7, 9}, []int{3, 1, 256}, []int{0, 0, 200})
	if !got.same(turning{[]byte{255, 252, 200, 9}, api.OK}) {
		t.Errorf("Turn of 255 254 7 9, bounds 3 1 256, want 0 0 200: %v", got)
	}
	for _, p := range [][]byte{nil, {0}, {255}, {255, 254, 7, 9}} {
		if got := turn(p, []int{3}, []int{3}); !got.same(turning{nil, api.ErrArg}) {
			t.Errorf("Turn of %v, bounds 3, want 3: %v", p, got)
		}
	}
}

// wishes: three lists of draws: the first below each bound, the last, and others.
func wishes(bounds []int) [3][]int {
	var first, last, other []int
	for i, b := range bounds {
		first, last, other = append(first, 0), append(last, b-1), append(other, (i*7+3)%b)
	}
	return [3][]int{first, last, other}
}

// P10.1: the known tape turned for each of its lists of bounds to all three wishes, as another program turned it; and back.
func TestKnownTurns(t *testing.T) {
	turned := [][3]string{
		{
			"e7a200008d00abc99200d2000009edfb9fd36ac99a8cfa5578f3dbdc6013f42f",
			"e7a280808d80abc99280d2808009edfb9fd36ac99a8cfa5578f3dbdc6013f42f",
			"e7a2030a8d11abc99218d21f2609edfb9fd36ac99a8cfa5578f3dbdc6013f42f",
		},
		{
			"e7640000640064c96400d21c1309edfb9fd36ac99a8cfa5578f3dbdc6013f42f",
			"e7c76363c763c7c9c763d21c1309edfb9fd36ac99a8cfa5578f3dbdc6013f42f",
			"e7670a117c1f8ac99134d21c1309edfb9fd36ac99a8cfa5578f3dbdc6013f42f",
		},
		{
			"e7a2573c8d33abc99024d21c1309edfb9fd36ac99a8cfa5578f3dbdc6013f42f",
			"e9a4593e8f35adcb9226d21c1309edfb9fd36ac99a8cfa5578f3dbdc6013f42f",
			"e7a3593c8e35abca9224d21c1309edfb9fd36ac99a8cfa5578f3dbdc6013f42f",
		},
		{
			"00000000000000000026d21c1309edfb9fd36ac99a8cfa5578f3dbdc6013f42f",
			"fefefefefefefefefe26d21c1309edfb9fd36ac99a8cfa5578f3dbdc6013f42f",
			"030a11181f262d343b26d21c1309edfb9fd36ac99a8cfa5578f3dbdc6013f42f",
		},
		{
			"000000008d34abc99226d21c1309edfb9fd36ac99a8cfa5578f3dbdc6013f42f",
			"ffffffff8d34abc99226d21c1309edfb9fd36ac99a8cfa5578f3dbdc6013f42f",
			"030a11188d34abc99226d21c1309edfb9fd36ac99a8cfa5578f3dbdc6013f42f",
		},
		{
			"e70000008d00abc90026d21c1309edfb9fd36ac99a8cfa5578f3dbdc6013f42f",
			"e7c795818d80abc9aa26d21c1309edfb9fd36ac99a8cfa5578f3dbdc6013f42f",
			"e7030a188d26abc92d26d21c1309edfb9fd36ac99a8cfa5578f3dbdc6013f42f",
		},
		{
			"dc984833802da8c39021d21b1007eafa9cd26ac99a8cfa5578f3dbdc6013f42f",
			"efaa59438f3bb5cf9b2bdb23170deffe9fd46bc99a8cfa5578f3dbdc6013f42f",
			"dfa2593a8f35abc39b21d523170aeffd9fd46bc99a8cfa5578f3dbdc6013f42f",
		},
		{
			"e6a05030800080009226d21c1309edfb9fd36ac99a8cfa5578f3dbdc6013f42f",
			"e7a3573f9f3fffff9226d21c1309edfb9fd36ac99a8cfa5578f3dbdc6013f42f",
			"e7a251389f26ad349226d21c1309edfb9fd36ac99a8cfa5578f3dbdc6013f42f",
		},
	}
	p := knownTape(t)
	for i, k := range known {
		for j, want := range wishes(k.bounds) {
			got := turn(p, k.bounds, want)
			if hex.EncodeToString(got.Tape) != turned[i][j] || got.Err != api.OK {
				t.Errorf("bounds %v, want %v: %x, error %d; want %s", k.bounds, want, got.Tape, got.Err, turned[i][j])
			}
			if back := turn(got.Tape, k.bounds, k.draws); !back.same(turning{p, api.OK}) {
				t.Errorf("bounds %v, back from %v: %v; want %v", k.bounds, want, back, p)
			}
		}
	}
}

// P10.1: every bound, each byte, and each draw wanted, with bytes about it that stay.
func TestTurnOfEveryByte(t *testing.T) {
	for b := 2; b <= 256; b++ {
		for v := range 256 {
			p := []byte{255, byte(v), 255, 7}
			bounds := []int{256, b, 1}
			want := []int{9, 0, 0}
			for w := range b {
				want[1] = w
				q, e := draw.Turn(p, bounds, want)
				to := []byte{9, byte(v), 255, 7}
				switch {
				case v < top(b):
					to[1] = byte(v/b*b + w)
				case 255 < top(b):
					to[2] = byte(255/b*b + w)
				default:
					to[3] = byte(7/b*b + w)
				}
				if !bytes.Equal(q, to) || e != api.OK {
					t.Fatalf("bound %d, %v, want %d: %v, error %d; want %v", b, p, w, q, e, to)
				}
			}
		}
	}
}

// P10.1: one bound, of each kind of tape, and draws wanted at the ends of the range and just outside it, and far outside.
func TestEndsOfTheRange(t *testing.T) {
	for b := 1; b <= 256; b++ {
		for _, p := range [][]byte{nil, {0}, {255}, {byte(top(b) - 1)}, {byte(top(b)), 0}, some(300, 20)} {
			for _, w := range []int{0, 1, b / 2, b - 2, b - 1, b, b + 1, 2*b - 1, 2 * b, 255, 256, 257, -1, -2, -b, -256,
				1 << 32, 1<<32 + 1, -1 << 32, math.MaxInt, math.MinInt} {
				got := checkTurn(t, "ends", p, []int{b}, []int{w})
				if (w < 0 || w >= b) != (got.Err == api.ErrArg) {
					t.Fatalf("bound %d, want %d: error %d", b, w, got.Err)
				}
			}
		}
	}
}

// P10.1: a draw that can't be, at each place, is ErrArg ahead of ErrTape: whatever the tape.
func TestWantedOutside(t *testing.T) {
	for _, bounds := range [][]int{{3}, {1}, {3, 1, 256}, {256, 2, 100}, times(20, 129), times(5, 1)} {
		for at, b := range bounds {
			for _, bad := range []int{-1, -2, -b, b, b + 1, 256, 257, math.MaxInt, math.MinInt, 1 << 32, -1 << 32} {
				want := times(len(bounds), 0)
				want[at] = bad
				for _, p := range [][]byte{nil, {255}, times(at, byte(0)), some(100, 21)} {
					if got := turn(p, bounds, want); !got.same(turning{nil, api.ErrArg}) {
						t.Errorf("%d bytes, bounds %v, want %v: %v; want error 2", len(p), bounds, want, got)
					}
				}
			}
		}
	}
}

// P10.1: a bound that is none, at each place, is ErrArg ahead of ErrTape, whatever the tape and whatever is wanted.
func TestBadBoundOfTurn(t *testing.T) {
	for _, n := range []int{1, 2, 3, 20} {
		for at := range n {
			for _, bad := range noBounds {
				bounds, want := times(n, 129), times(n, 100)
				bounds[at] = bad
				for _, w := range []int{0, 1, 256, bad, bad - 1, -1} {
					want[at] = w
					for _, p := range [][]byte{nil, {0}, {255}, some(100, 22)} {
						if got := turn(p, bounds, want); !got.same(turning{nil, api.ErrArg}) {
							t.Errorf("%d bytes, bounds %v, want %v: %v; want error 2", len(p), bounds, want, got)
						}
					}
				}
			}
		}
	}
}

// P10.1: lists of unlike lengths are ErrArg ahead of ErrTape, where all that is in them is right too.
func TestUnlikeLengths(t *testing.T) {
	for n := range 8 {
		for m := range 8 {
			for _, b := range []int{1, 2, 129, 256} {
				for _, p := range [][]byte{nil, {0}, times(n, byte(0)), times(n, byte(255)), some(50, 23)} {
					bounds, want := times(n, b), times(m, b-1)
					got := checkTurn(t, "lengths", p, bounds, want)
					if (n != m) != (got.Err == api.ErrArg) {
						t.Errorf("%d bounds, %d draws: error %d", n, m, got.Err)
					}
				}
			}
		}
	}
	for _, p := range [][]byte{nil, {0}, some(9, 24)} {
		if got := turn(p, nil, []int{0}); !got.same(turning{nil, api.ErrArg}) {
			t.Errorf("no bounds, one draw: %v", got)
		}
		if got := turn(p, []int{1}, nil); !got.same(turning{nil, api.ErrArg}) {
			t.Errorf("one bound, no draws: %v", got)
		}
		if got := turn(p, nil, nil); !got.same(turning{p, api.OK}) {
			t.Errorf("no bounds, no draws: %v; want %v", got, p)
		}
	}
}

// P10.1: ErrTape where All answers it: one byte too short, and each length below.
func TestTurnExhausted(t *testing.T) {
	r := rand.New(rand.NewSource(110))
	for _, bounds := range lists()[:15] {
		for _, over := range []int{0, 1, 4} {
			p := enough(bounds, over, r)
			for _, want := range wishes(bounds) {
				for n := range len(p) {
					if got := turn(p[:n], bounds, want); !got.same(turning{nil, api.ErrTape}) {
						t.Errorf("%d of %d bytes, bounds %v: %v; want error 3", n, len(p), bounds, got)
					}
				}
				if got := checkTurn(t, "just long enough", p, bounds, want); got.Err != api.OK {
					t.Errorf("%d bytes, bounds %v: error %d", len(p), bounds, got.Err)
				}
			}
		}
	}
}

// P10.1: bytes that are passed over stay, and those that aren't read, and all with bounds of 1.
func TestOtherBytesStay(t *testing.T) {
	p := []byte{255, 200, 255, 1, 199, 255, 201, 17, 255, 128, 77}
	for _, c := range []struct{ bounds, want, stay []int }{
		{[]int{100, 100}, []int{5, 6}, []int{0, 1, 2, 5, 6, 7, 8, 9, 10}},
		{[]int{129}, []int{5}, []int{0, 1, 2, 4, 5, 6, 7, 8, 9, 10}},
		{[]int{1, 129, 1, 129, 1, 129, 1}, []int{0, 5, 0, 6, 0, 7, 0}, []int{0, 1, 2, 4, 5, 6, 8, 10}},
		{[]int{256, 129, 3}, []int{5, 6, 2}, []int{1, 2, 5, 6, 7, 8, 9, 10}},
		{[]int{1, 1, 1}, []int{0, 0, 0}, []int{0, 1, 2, 3, 4, 5, 6, 7, 8, 9, 10}},
	} {
		got := turn(p, c.bounds, c.want)
		if got.Err != api.OK || len(got.Tape) != len(p) {
			t.Fatalf("bounds %v: %v", c.bounds, got)
		}
		for at := range p {
			if (got.Tape[at] == p[at]) != slices.Contains(c.stay, at) {
				t.Errorf("bounds %v, want %v: byte %d is %d, was %d; those at %v stay", c.bounds, c.want, at, got.Tape[at], p[at], c.stay)
			}
		}
	}
}

// checkThereAndBack: the promise P10.2, of one call.
func checkThereAndBack(t *testing.T, p []byte, bounds, want []int) {
	t.Helper()
	first := all(p, bounds)
	got := turn(p, bounds, want)
	if first.Err != api.OK || got.Err != api.OK {
		t.Fatalf("bounds %s: errors %d, %d", brief(bounds), first.Err, got.Err)
	}
	if len(got.Tape) != len(p) {
		t.Errorf("bounds %s: %d bytes of %d", brief(bounds), len(got.Tape), len(p))
	}
	if told := all(got.Tape, bounds); !told.same(drawing{Draws: want, Read: first.Read}) {
		t.Errorf("bounds %s, turned: %v; want %s, %d bytes", brief(bounds), told, brief(want), first.Read)
	}
	if back := turn(got.Tape, bounds, first.Draws); !back.same(turning{p, api.OK}) {
		t.Errorf("bounds %s, back: %v; want %s", brief(bounds), back, brief(p))
	}
	if same := turn(p, bounds, first.Draws); !same.same(turning{p, api.OK}) {
		t.Errorf("bounds %s, turned to its own draws: %v; want %s", brief(bounds), same, brief(p))
	}
}

// P10.2: Turn there and back, with all lists of bounds and tapes just long enough and longer.
func TestThereAndBack(t *testing.T) {
	r := rand.New(rand.NewSource(102))
	for _, bounds := range append(lists(), nil) {
		for _, over := range []int{0, 1, 3} {
			for _, idle := range []int{0, 1, 20} {
				p := join(enough(bounds, over, r), anyBytes(r, idle))
				for _, want := range wishes(bounds) {
					checkThereAndBack(t, p, bounds, want)
				}
				checkThereAndBack(t, p, bounds, anyDraws(r, bounds))
			}
		}
	}
}

// anyDraws: draws below these bounds, without a rule.
func anyDraws(r *rand.Rand, bounds []int) []int {
	want := make([]int, len(bounds))
	for i, b := range bounds {
		want[i] = r.Intn(b)
	}
	return want
}

// P10.2: over another list of draws or straight, Turn comes to the same tape; and bytes behind the tape stay behind it.
func TestTurnOverAThird(t *testing.T) {
	r := rand.New(rand.NewSource(111))
	for range 2000 {
		bounds := anyBounds(r, r.Intn(10))
		p := enough(bounds, r.Intn(3), r)
		one, two := anyDraws(r, bounds), anyDraws(r, bounds)
		straight := turn(p, bounds, two)
		over := turn(turn(p, bounds, one).Tape, bounds, two)
		if straight.Err != api.OK || !over.same(straight) {
			t.Errorf("%v, bounds %v, over %v to %v: %v; straight %v", p, bounds, one, two, over, straight)
		}
		more := anyBytes(r, 5)
		if longer := turn(join(p, more), bounds, two); !longer.same(turning{join(straight.Tape, more), api.OK}) {
			t.Errorf("%v with %v behind it, bounds %v to %v: %v; without %v", p, more, bounds, two, longer, straight)
		}
	}
}

// P10.1: arguments without a rule, right and wrong, held against the chapter's words.
func TestAnyTurns(t *testing.T) {
	r := rand.New(rand.NewSource(112))
	var ok, exhausted, refused int
	for range 30000 {
		bounds := anyBounds(r, r.Intn(12))
		p, want := anyBytes(r, r.Intn(30)), anyDraws(r, bounds)
		switch n := len(bounds); {
		case n > 0 && r.Intn(10) == 0:
			bounds[r.Intn(n)] = noBounds[r.Intn(len(noBounds))]
		case n > 0 && r.Intn(10) == 0:
			at := r.Intn(n)
			want[at] = []int{-1, bounds[at], bounds[at] + 1, 256}[r.Intn(4)]
		case r.Intn(10) == 0:
			want = anyDraws(r, anyBounds(r, r.Intn(12)))
		}
		switch checkTurn(t, "any", p, bounds, want).Err {
		case api.OK:
			ok++
		case api.ErrTape:
			exhausted++
		case api.ErrArg:
			refused++
		}
	}
	if ok < 1000 || exhausted < 1000 || refused < 1000 {
		t.Errorf("%d OK, %d exhausted, %d refused: too few of one kind", ok, exhausted, refused)
	}
}

// everyTape: calls f with each list of n bytes.
func everyTape(n int, f func(p []byte)) {
	count := 1 << (8 * n)
	p := make([]byte, n)
	for number := range count {
		for i := range p {
			p[i] = byte(number >> (8 * i))
		}
		f(p)
	}
}

// everyDraws: each list of draws below these bounds.
func everyDraws(bounds []int) [][]int {
	every := [][]int{{}}
	for _, b := range bounds {
		var longer [][]int
		for _, list := range every {
			for v := range b {
				longer = append(longer, append(slices.Clone(list), v))
			}
		}
		every = longer
	}
	return every
}

// A class is how the tapes of one length fall by what they tell: how many tell something, and how many each list of draws; reckoned by another program.
type class struct {
	length int
	bounds []int
	whole  int
	each   int
}

func classes() []class {
	return []class{
		{0, nil, 1, 1}, {0, []int{1, 1}, 1, 1}, {0, []int{2}, 0, 0},
		{1, []int{3}, 255, 85}, {1, []int{100}, 200, 2}, {1, []int{129}, 129, 1}, {1, []int{256}, 256, 1}, {1, []int{2, 2}, 0, 0},
		{2, nil, 65536, 65536}, {2, []int{3}, 65535, 21845}, {2, []int{100}, 62400, 624}, {2, []int{129}, 49407, 383},
		{2, []int{3, 1, 5}, 65025, 4335}, {2, []int{129, 2}, 33024, 128}, {2, []int{100, 100}, 40000, 4},
		{2, []int{255, 1}, 65535, 257}, {2, []int{200, 200}, 40000, 1}, {2, []int{2, 3, 2}, 0, 0},
	}
}

// number: the place of a list of draws among all lists below these bounds.
func number(draws, bounds []int) int {
	n := 0
	for i, v := range draws {
		n = n*bounds[i] + v
	}
	return n
}

// checkClasses: of all tapes of a length each list of draws is told by as many as each other.
func checkClasses(t *testing.T, c class) {
	t.Helper()
	every := everyDraws(c.bounds)
	told, whole := make([]int, len(every)), 0
	everyTape(c.length, func(p []byte) {
		draws, _, e := draw.All(p, c.bounds)
		if e == api.OK {
			whole++
			told[number(draws, c.bounds)]++
		}
	})
	if whole != c.whole {
		t.Errorf("length %d, bounds %v: %d tapes tell something; want %d", c.length, c.bounds, whole, c.whole)
	}
	for i, n := range told {
		if n != c.each {
			t.Errorf("length %d, bounds %v: %d tapes tell %v; want %d", c.length, c.bounds, n, every[i], c.each)
		}
	}
}

// P10.2: for each length and each list of bounds the tapes that aren't exhausted fall into equally large classes.
func TestEquallyLargeClasses(t *testing.T) {
	for _, c := range classes() {
		checkClasses(t, c)
	}
}

// P10.2: the same of all tapes of three bytes.
func TestEquallyLargeClassesOfThree(t *testing.T) {
	if testing.Short() {
		t.Skip("all tapes of three bytes take seconds")
	}
	for _, c := range []class{{3, []int{100, 3}, 15963000, 53210}, {3, []int{129, 129}, 8486910, 510}} {
		t.Run(fmt.Sprint(c.bounds), func(t *testing.T) {
			t.Parallel()
			checkClasses(t, c)
		})
	}
}

// A pair is the class that a tape is of, and the tape that it goes to.
type pair struct {
	class int
	to    string
}

// P10.2: of all short tapes, those that tell one list of draws go each to one of its own that tells the other; as many as there are.
func TestOneToOne(t *testing.T) {
	for _, c := range classes() {
		if c.whole == 0 {
			continue
		}
		every := everyDraws(c.bounds)
		for _, to := range [][]int{every[0], every[len(every)/2], every[len(every)-1]} {
			from := map[pair]string{}
			everyTape(c.length, func(p []byte) {
				told := all(p, c.bounds)
				got := turn(p, c.bounds, to)
				if got.Err != told.Err {
					t.Fatalf("%v, bounds %v to %v: error %d; All: %d", p, c.bounds, to, got.Err, told.Err)
				}
				if got.Err != api.OK {
					return
				}
				if again := all(got.Tape, c.bounds); !again.same(drawing{Draws: to, Read: told.Read}) {
					t.Fatalf("%v, bounds %v to %v: %v, which tells %v", p, c.bounds, to, got.Tape, again)
				}
				way := pair{number(told.Draws, c.bounds), string(got.Tape)}
				if other, is := from[way]; is {
					t.Fatalf("%v and %v, bounds %v to %v: both %v", []byte(other), p, c.bounds, to, got.Tape)
				}
				from[way] = string(p)
			})
			if len(from) != c.whole {
				t.Errorf("length %d, bounds %v to %v: %d tapes; want %d", c.length, c.bounds, to, len(from), c.whole)
			}
		}
	}
}

// Rule 5: what is handed in stays as it is, its spare room too, and what is answered is memory of its own: also where nothing is turned.
func TestMemoryOfTurn(t *testing.T) {
	r := rand.New(rand.NewSource(113))
	for _, list := range append(lists(), nil, times(3, 1)) {
		for _, over := range []int{0, 2} {
			long := join(enough(list, over, r), some(9, 25))
			for _, draws := range wishes(list) {
				checkMemoryOfTurn(t, long, list, draws)
				checkMemoryOfTurn(t, long[:len(long)/3], list, draws)
				checkMemoryOfTurn(t, long, list, append(draws, 0))
				checkMemoryOfTurn(t, long, append(list, 0), append(draws, 0))
				checkMemoryOfTurn(t, nil, list, draws)
			}
		}
	}
}

// checkMemoryOfTurn: one call with lists that have room about them, and two answers, of which one is changed.
func checkMemoryOfTurn(t *testing.T, tapeOf []byte, boundsOf, wantOf []int) {
	t.Helper()
	p, wholeTape := withRoom(tapeOf, byte(99))
	bounds, wholeBounds := withRoom(boundsOf, 88)
	want, wholeWant := withRoom(wantOf, 77)
	to := definedTurn(tapeOf, boundsOf, wantOf)
	first, e := draw.Turn(p, bounds, want)
	second := turn(p, bounds, want)
	grown := append(first, 1, 2, 3)
	clear(first[:cap(first)])
	clear(grown)
	if !second.same(to) || e != to.Err {
		t.Errorf("bounds %s, want %s: %v beside a changed answer; want %v", brief(bounds), brief(want), second, to)
	}
	clear(second.Tape[:cap(second.Tape)])
	_, tapeBefore := withRoom(tapeOf, byte(99))
	_, boundsBefore := withRoom(boundsOf, 88)
	_, wantBefore := withRoom(wantOf, 77)
	if !bytes.Equal(wholeTape, tapeBefore) || !slices.Equal(wholeBounds, boundsBefore) || !slices.Equal(wholeWant, wantBefore) {
		t.Errorf("bounds %s, want %s: what was handed in has changed", brief(bounds), brief(want))
	}
}

// Rule 5: an answer is not changed by what becomes of the lists that were handed in.
func TestTurnedStays(t *testing.T) {
	p, bounds, want := some(9, 26), []int{100, 1, 256}, []int{7, 0, 8}
	to := definedTurn(p, bounds, want)
	got := turn(p, bounds, want)
	clear(p)
	clear(bounds)
	clear(want)
	if to.Err != api.OK || !got.same(to) {
		t.Errorf("%v; want %v", got, to)
	}
}

// Rule 1: bounds and draws wanted may lie in one memory, and be one and the same list.
func TestListsInOneMemory(t *testing.T) {
	list := []int{200, 129, 100, 57, 30, 3, 2, 1, 0}
	for n := range len(list) {
		checkTurn(t, "one behind", some(40, 27), list[:n], list[1:][:n])
		checkTurn(t, "one ahead", some(40, 27), list[1:][:n], list[:n])
		checkTurn(t, "the same", some(40, 27), list[:n], list[:n])
	}
	if got := turn(some(40, 27), list[:8], list[1:]); got.Err != api.OK {
		t.Errorf("one behind: error %d", got.Err)
	}
}

func ExampleTurn() {
	q, e := draw.Turn([]byte{255, 254, 7, 9}, []int{3, 1, 256}, []int{0, 0, 200})
	fmt.Println(q, int(e))
	p, e := draw.Turn(q, []int{3, 1, 256}, []int{2, 0, 7})
	fmt.Println(p, int(e))
	// Output:
	// [255 252 200 9] 0
	// [255 254 7 9] 0
}
