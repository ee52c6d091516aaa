package draw_test

import (
	"bytes"
	"encoding/hex"
	"fmt"
	"math/rand"
	"slices"
	"sync"
	"testing"

	"churn/api"
	"churn/draw"
	"churn/tape"
)

// P10.1: the chapter's examples of Below and All.
func TestExamples(t *testing.T) {
	v, behind, e := draw.Below(tape.New([]byte{255, 254, 7}), 3)
	if v != 2 || e != api.OK {
		t.Errorf("Below of 255 254 7, 3: %d, error %d", v, e)
	}
	checkTape(t, "Below of 255 254 7, 3", behind, []byte{7}, 2)
	v, behind, e = draw.Below(tape.New([]byte{255}), 3)
	if v != 0 || e != api.ErrTape {
		t.Errorf("Below of 255, 3: %d, error %d", v, e)
	}
	checkZero(t, "Below of 255, 3", behind)
	v, behind, e = draw.Below(tape.New([]byte{255, 254}), 1)
	if v != 0 || e != api.OK {
		t.Errorf("Below 1: %d, error %d", v, e)
	}
	checkTape(t, "Below 1", behind, []byte{255, 254}, 0)
	for _, b := range []int{0, 257} {
		v, behind, e = draw.Below(tape.New([]byte{255, 254}), b)
		if v != 0 || e != api.ErrArg {
			t.Errorf("Below %d: %d, error %d", b, v, e)
		}
		checkZero(t, "Below of what is no bound", behind)
	}
	if got := all([]byte{255, 254, 7}, []int{3, 1, 256}); !got.same(drawing{Draws: []int{2, 0, 7}, Read: 3}) {
		t.Errorf("All of 255 254 7, bounds 3 1 256: %v", got)
	}
	if got := all([]byte{5}, nil); !got.same(drawing{}) {
		t.Errorf("All of 5, no bounds: %v", got)
	}
}

// P10.1: the errors' numbers, as the document tells them.
func TestNumbersOfErrors(t *testing.T) {
	for b, want := range map[int]int{0: 2, 257: 2, -1: 2, 2: 3, 256: 3, 1: 0} {
		_, _, e := draw.Below(tape.New(nil), b)
		_, _, e2 := draw.All(nil, []int{b})
		_, e3 := draw.Turn(nil, []int{b}, []int{0})
		if int(e) != want || int(e2) != want || int(e3) != want {
			t.Errorf("no bytes, bound %d: errors %d, %d, %d; want %d", b, e, e2, e3, want)
		}
	}
}

// known: draws that another program told of one tape.
var known = []struct {
	bounds []int
	draws  []int
	read   int
}{
	{[]int{129, 129, 129, 129, 129, 129}, []int{87, 62, 52, 38, 28, 19}, 13},
	{[]int{100, 100, 100, 100, 100, 100, 100, 100}, []int{62, 87, 62, 41, 52, 71, 46, 38}, 10},
	{[]int{3, 3, 3, 3, 3, 3, 3, 3, 3, 3}, []int{0, 0, 0, 2, 0, 1, 0, 0, 2, 2}, 10},
	{[]int{255, 255, 255, 255, 255, 255, 255, 255, 255}, []int{231, 162, 87, 62, 141, 52, 171, 201, 146}, 9},
	{[]int{256, 256, 256, 256}, []int{231, 162, 87, 62}, 4},
	{[]int{200, 150, 1, 130, 1, 129, 171}, []int{162, 87, 0, 62, 0, 52, 146}, 9},
	{[]int{20, 19, 18, 17, 16, 15, 14, 13, 12, 11, 10, 9, 8, 7, 6, 5, 4, 3, 2, 1},
		[]int{11, 10, 15, 11, 13, 7, 3, 6, 2, 5, 0, 1, 3, 2, 3, 1, 3, 1, 0, 0}, 19},
	{[]int{2, 4, 8, 16, 32, 64, 128, 256}, []int{1, 2, 7, 14, 13, 52, 43, 201}, 8},
}

// knownTape: the tape of which known tells.
func knownTape(t *testing.T) []byte {
	p, err := hex.DecodeString("e7a2573e8d34abc99226d21c1309edfb9fd36ac99a8cfa5578f3dbdc6013f42f")
	if err != nil {
		t.Fatal(err)
	}
	return p
}

// P10.1: draws of one tape, reckoned by another program; by Below one by one too.
func TestKnownDraws(t *testing.T) {
	p := knownTape(t)
	for _, k := range known {
		if got := all(p, k.bounds); !got.same(drawing{Draws: k.draws, Read: k.read}) {
			t.Errorf("All, bounds %v: %v; want %v, %d bytes", k.bounds, got, k.draws, k.read)
		}
		from := tape.New(p)
		for i, b := range k.bounds {
			v, behind, e := draw.Below(from, b)
			if v != k.draws[i] || e != api.OK {
				t.Errorf("Below, bounds %v, draw %d: %d, error %d; want %d", k.bounds, i, v, e, k.draws[i])
			}
			from = behind
		}
		checkTape(t, fmt.Sprint("Below, bounds ", k.bounds), from, p[k.read:], k.read)
	}
}

// P10.1: every bound with each first byte, alone on its tape and with bytes behind it, of each kind.
func TestEveryBoundAndFirstByte(t *testing.T) {
	for b := 1; b <= 256; b++ {
		for v := range 256 {
			first := byte(v)
			checkBelow(t, []byte{first}, 0, b)
			checkBelow(t, []byte{first, 0}, 0, b)
			checkBelow(t, []byte{first, 255}, 0, b)
			checkBelow(t, []byte{first, 255, 129, 7}, 0, b)
			checkBelow(t, []byte{9, first, 3}, 1, b)
		}
	}
}

// P10.1: of each bound the last byte that is taken tells the greatest draw, and the first that is passed over none: 256 is the top of those bounds alone that divide it.
func TestLastTakenFirstPassedOver(t *testing.T) {
	divide := 0
	for b := 2; b <= 256; b++ {
		last := top(b) - 1
		v, behind, e := draw.Below(tape.New([]byte{byte(last), 5}), b)
		if v != b-1 || e != api.OK || behind.Left() != 1 {
			t.Errorf("bound %d, byte %d: %d, Left %d, error %d; want %d, 1", b, last, v, behind.Left(), e, b-1)
		}
		if last == 255 {
			divide++
			continue
		}
		_, behind, e = draw.Below(tape.New([]byte{byte(last + 1)}), b)
		if e != api.ErrTape {
			t.Errorf("bound %d, byte %d alone: error %d; want 3", b, last+1, e)
		}
		checkZero(t, "a byte passed over alone", behind)
	}
	if divide != 8 {
		t.Errorf("%d bounds from 2 on pass nothing over; want 8", divide)
	}
}

// P10.1: each draw below a bound is told by as many bytes as each other.
func TestEachDrawByAsManyBytes(t *testing.T) {
	for b := 2; b <= 256; b++ {
		told := make([]int, b)
		for v := range 256 {
			d, _, e := draw.Below(tape.New([]byte{byte(v)}), b)
			if e != api.OK {
				continue
			}
			if d < 0 || d >= b {
				t.Fatalf("bound %d, byte %d: %d", b, v, d)
			}
			told[d]++
		}
		for d, n := range told {
			if n != 256/b {
				t.Errorf("bound %d: %d bytes tell %d; want %d", b, n, d, 256/b)
			}
		}
	}
}

// P10.1: what is no bound is ErrArg, whatever the tape: none, one, many, read up.
func TestNoBounds(t *testing.T) {
	for _, b := range noBounds {
		checkBelow(t, nil, 0, b)
		checkBelow(t, []byte{0}, 0, b)
		checkBelow(t, []byte{255}, 1, b)
		checkBelow(t, some(300, 1), 0, b)
		checkBelow(t, some(300, 1), 150, b)
		for _, p := range [][]byte{nil, {0}, {255}, some(300, 1)} {
			v, behind, e := draw.Below(tape.New(p), b)
			if v != 0 || e != api.ErrArg {
				t.Errorf("bound %d, %d bytes: %d, error %d; want error 2", b, len(p), v, e)
			}
			checkZero(t, fmt.Sprint("bound ", b), behind)
		}
	}
}

// P10.1: a tape with no byte left is exhausted below each bound but 1, whether it had bytes or not.
func TestNoByteLeft(t *testing.T) {
	var zero tape.Tape
	_, end, _ := tape.New(some(9, 2)).Take(9)
	for b := 2; b <= 256; b++ {
		for name, a := range map[string]tape.Tape{"zero": zero, "of nil": tape.New(nil), "read up": end} {
			v, behind, e := draw.Below(a, b)
			if v != 0 || e != api.ErrTape {
				t.Errorf("%s, bound %d: %d, error %d; want error 3", name, b, v, e)
			}
			checkZero(t, name, behind)
		}
	}
}

// P10.1: with bound 1 no byte is read, whatever the tape and however often: the tape is the same.
func TestBoundOneReadsNothing(t *testing.T) {
	for _, n := range []int{0, 1, 2, 40} {
		p := some(n, 3)
		for used := range n + 1 {
			checkBelow(t, p, used, 1)
			_, a, _ := tape.New(p).Take(used)
			for range 5 {
				v, same, e := draw.Below(a, 1)
				if v != 0 || e != api.OK {
					t.Errorf("%d of %d read, bound 1: %d, error %d", used, n, v, e)
				}
				checkTape(t, fmt.Sprintf("%d of %d read, bound 1", used, n), same, p[used:], used)
				a = same
			}
		}
	}
	v, same, e := draw.Below(tape.Tape{}, 1)
	if v != 0 || e != api.OK {
		t.Errorf("the zero Tape, bound 1: %d, error %d", v, e)
	}
	checkZero(t, "the zero Tape, bound 1", same)
	for _, n := range []int{0, 1, 2, 1000} {
		for _, p := range [][]byte{nil, {255}, some(9, 4)} {
			if got := all(p, times(n, 1)); !got.same(drawing{Draws: times(n, 0)}) {
				t.Errorf("All of %v, %d bounds of 1: %v", p, n, got)
			}
		}
	}
}

// P10.1: bytes that are passed over, few and many: one that is taken behind them, another behind that, or the tape's end; from the front and behind a read.
func TestManyPassedOver(t *testing.T) {
	for _, b := range []int{3, 5, 6, 7, 100, 127, 129, 130, 200, 254, 255} {
		first := byte(top(b))
		for _, n := range []int{0, 1, 2, 3, 50, 255, 256, 257, 3000} {
			for _, over := range []byte{first, 255} {
				p := times(n, over)
				checkBelow(t, p, 0, b)
				checkBelow(t, p, n/2, b)
				checkBelow(t, join(p, []byte{first - 1}), 0, b)
				checkBelow(t, join(p, []byte{first - 1}), n/2, b)
				checkBelow(t, join(p, []byte{0}), n, b)
				checkBelow(t, join(p, []byte{1, 2, over, 0}), n/3, b)
				checkAll(t, "passed over", join(p, []byte{1}, p, []byte{0}, p), []int{b, b})
				checkAll(t, "passed over, exhausted", join(p, []byte{1}, p), []int{b, b})
				checkAll(t, "passed over below one, taken below the other", join(p, []byte{1}, p), []int{b, 256, 1})
			}
		}
	}
}

// P10.1: All with one bound, each of them, and bytes of all kinds.
func TestAllOfOneBound(t *testing.T) {
	up, down := make([]byte, 256), make([]byte, 256)
	for v := range 256 {
		up[v], down[v] = byte(v), byte(255-v)
	}
	for b := 1; b <= 256; b++ {
		for _, p := range [][]byte{nil, {0}, {254}, {255}, up, down, some(40, 5)} {
			checkAll(t, "one bound", p, []int{b})
			checkBelow(t, p, 0, b)
		}
		checkAll(t, "one bound, many times", join(up, down), times(len(up), b))
		checkAll(t, "one bound, too many times", join(up, down), times(2*len(up)+1, b))
	}
}

// P10.1: All with no bounds reads nothing of whatever tape.
func TestNoBoundsAtAll(t *testing.T) {
	for _, p := range [][]byte{nil, {}, {0}, {255}, some(1000, 6)} {
		for _, bounds := range [][]int{nil, {}} {
			if got := all(p, bounds); !got.same(drawing{}) {
				t.Errorf("All of %d bytes, no bounds: %v", len(p), got)
			}
		}
	}
}

// P10.1: a bound that is none, wherever it stands, is ErrArg ahead of ErrTape, whatever the tape.
func TestBadBoundAheadOfTape(t *testing.T) {
	for _, n := range []int{1, 2, 3, 8, 65} {
		for at := range n {
			for _, bad := range noBounds {
				bounds := times(n, 7)
				bounds[at] = bad
				for _, p := range [][]byte{nil, {0}, {255}, times(at, byte(3)), times(n, byte(3)), some(200, 7)} {
					if got := all(p, bounds); !got.same(drawing{Err: api.ErrArg}) {
						t.Errorf("All of %d bytes, bound %d of %d is %d: %v; want error 2", len(p), at, n, bad, got)
					}
				}
			}
		}
	}
}

// lists: many bounds, of all kinds, with those of 1 among them.
func lists() [][]int {
	several := [][]int{
		{1}, {2}, {3}, {256}, {1, 1}, {3, 1}, {1, 3}, {256, 255}, {3, 1, 256}, {1, 1, 2, 1, 1},
		{100, 200, 100}, {129, 129, 129}, {2, 4, 8, 16, 32, 64, 128, 256}, times(30, 129), times(64, 256),
	}
	down := make([]int, 256)
	for i := range down {
		down[i] = 256 - i
	}
	up := slices.Clone(down)
	slices.Reverse(up)
	return append(several, down, up, join(up, down))
}

// enough: a tape that is just long enough for these bounds: ahead of each byte that is taken so many that are passed over.
func enough(bounds []int, over int, r *rand.Rand) []byte {
	var p []byte
	for _, b := range bounds {
		if b == 1 {
			continue
		}
		t := top(b)
		for range over {
			if t < 256 {
				p = append(p, byte(t+r.Intn(256-t)))
			}
		}
		p = append(p, byte(r.Intn(t)))
	}
	return p
}

// P10.1: tapes that are just long enough, one byte too short, and shorter; how many bytes were read is all of them.
func TestJustLongEnough(t *testing.T) {
	r := rand.New(rand.NewSource(101))
	for _, bounds := range lists() {
		for _, over := range []int{0, 1, 2, 9} {
			p := enough(bounds, over, r)
			if got := checkAll(t, "just long enough", p, bounds); got.Err != api.OK || got.Read != len(p) {
				t.Fatalf("%s: the tape is not what it should be: %v", brief(bounds), got)
			}
			if len(p) == 0 {
				continue
			}
			for _, short := range []int{1, min(2, len(p)), (len(p) + 1) / 2, len(p)} {
				if got := all(p[:len(p)-short], bounds); !got.same(drawing{Err: api.ErrTape}) {
					t.Errorf("%d bytes too short, bounds %s: %v; want error 3", short, brief(bounds), got)
				}
			}
			checkAll(t, "one byte more", append(p, 77), bounds)
		}
	}
}

// P10.4: of a tape with any bytes behind it All answers the same.
func TestLongerTapes(t *testing.T) {
	r := rand.New(rand.NewSource(104))
	for _, bounds := range append(lists(), nil) {
		for _, over := range []int{0, 1, 3} {
			for _, idle := range []int{0, 1, 5} {
				p := join(enough(bounds, over, r), some(idle, byte(over)))
				want := all(p, bounds)
				if want.Err != api.OK {
					t.Fatalf("bounds %s: error %d", brief(bounds), want.Err)
				}
				for _, more := range [][]byte{{0}, {255}, times(100, byte(0)), times(100, byte(255)), some(500, 8)} {
					if got := all(join(p, more), bounds); !got.same(want) {
						t.Errorf("bounds %s, %d bytes more: %v; want %v", brief(bounds), len(more), got, want)
					}
				}
			}
		}
	}
}

// inPieces: All with the bounds a and then, of the bytes behind those that were read, with b; as the promise puts both together.
func inPieces(p []byte, a, b []int) (drawing, int) {
	first := all(p, a)
	if first.Err != api.OK {
		return drawing{Err: first.Err}, 1
	}
	second := all(p[first.Read:], b)
	if second.Err != api.OK {
		return drawing{Err: second.Err}, 2
	}
	return drawing{Draws: join(first.Draws, second.Draws), Read: first.Read + second.Read}, 0
}

// P10.3: All in pieces, at each place where the bounds can be cut, with each length of the tape: so also where it is exhausted in the first piece, and in the second.
func TestInPieces(t *testing.T) {
	r := rand.New(rand.NewSource(103))
	var fails [3]int
	for _, bounds := range append(lists()[:15], lists()[16][:40], []int{1, 50, 1, 60, 1, 70, 1}, nil) {
		for _, over := range []int{0, 1, 2} {
			p := append(enough(bounds, over, r), 255, 0)
			for n := range len(p) + 1 {
				want := checkAll(t, "at once", p[:n], bounds)
				for cut := range len(bounds) + 1 {
					got, fault := inPieces(p[:n], bounds[:cut], bounds[cut:])
					if !got.same(want) {
						t.Errorf("%d bytes, bounds %s cut at %d: %v; at once %v", n, brief(bounds), cut, got, want)
					}
					fails[fault]++
				}
			}
		}
	}
	if fails[0] == 0 || fails[1] == 0 || fails[2] == 0 {
		t.Errorf("OK, exhausted in the first and in the second piece: %v times", fails)
	}
}

// P10.3: All is Below, bound by bound.
func TestAllIsBelowByBelow(t *testing.T) {
	r := rand.New(rand.NewSource(105))
	for range 300 {
		bounds, p := anyBounds(r, r.Intn(12)), anyBytes(r, r.Intn(25))
		from, draws := tape.New(p), []int(nil)
		var e api.Errno
		for _, b := range bounds {
			var v int
			v, from, e = draw.Below(from, b)
			if e != api.OK {
				draws = nil
				break
			}
			draws = append(draws, v)
		}
		if got := all(p, bounds); !got.same(drawing{Draws: draws, Read: from.Used(), Err: e}) {
			t.Errorf("All(%v, %v) = %v; one by one %v, %d bytes, error %d", p, bounds, got, draws, from.Used(), e)
		}
	}
}

// anyBounds: n bounds without a rule, many of them edges.
func anyBounds(r *rand.Rand, n int) []int {
	edges := []int{1, 1, 2, 3, 85, 86, 100, 127, 128, 129, 130, 254, 255, 256}
	bounds := make([]int, n)
	for i := range bounds {
		bounds[i] = 1 + r.Intn(256)
		if r.Intn(3) == 0 {
			bounds[i] = edges[r.Intn(len(edges))]
		}
	}
	return bounds
}

// anyBytes: n bytes without a rule, more of the great ones than there would be.
func anyBytes(r *rand.Rand, n int) []byte {
	p := make([]byte, n)
	for i := range p {
		p[i] = byte(r.Intn(256))
		if r.Intn(3) == 0 {
			p[i] |= 0x80
		}
	}
	return p
}

// P10.1: arguments without a rule, held against the chapter's words.
func TestAnyArguments(t *testing.T) {
	r := rand.New(rand.NewSource(106))
	for range 20000 {
		p, bounds := anyBytes(r, r.Intn(30)), anyBounds(r, r.Intn(20))
		if len(bounds) > 0 && r.Intn(10) == 0 {
			bounds[r.Intn(len(bounds))] = noBounds[r.Intn(len(noBounds))]
		}
		checkAll(t, "any", p, bounds)
		checkBelow(t, p, r.Intn(len(p)+1), r.Intn(262)-2)
	}
}

// P10.1: long tapes and long lists of bounds.
func TestLong(t *testing.T) {
	p := some(1<<20, 9)
	for _, b := range []int{2, 129, 256} {
		checkAll(t, "long", p, times(100000, b))
	}
	checkAll(t, "long, of ones", nil, times(100000, 1))
	checkAll(t, "long, exhausted", p[:1<<16], times(1<<16, 255))
	checkAll(t, "long, all passed over", times(1<<20, byte(255)), []int{255})
	checkBelow(t, append(times(1<<20, byte(255)), 254), 0, 255)
}

// Rule 5: what is handed in stays as it is, its spare room too, and what is answered is memory of its own.
func TestMemory(t *testing.T) {
	r := rand.New(rand.NewSource(107))
	for _, list := range append(lists(), nil, []int{5, 0}, []int{300}) {
		for _, length := range []int{0, 1, 40, 600} {
			p, wholeTape := withRoom(anyBytes(r, length), byte(99))
			bounds, wholeBounds := withRoom(list, 88)
			tapeBefore, boundsBefore := bytes.Clone(wholeTape), slices.Clone(wholeBounds)
			want := definedAll(p, bounds)
			first, read, e := draw.All(p, bounds)
			second, _, _ := draw.All(p, bounds)
			grown := append(first, 1, 2, 3)
			clear(first[:cap(first)])
			clear(grown)
			if got := (drawing{Draws: second, Read: read, Err: e}); !got.same(want) {
				t.Errorf("%d bytes, bounds %s: %v beside a changed answer; want %v", length, brief(list), got, want)
			}
			clear(second[:cap(second)])
			if !bytes.Equal(wholeTape, tapeBefore) || !slices.Equal(wholeBounds, boundsBefore) {
				t.Errorf("%d bytes, bounds %s: what was handed in has changed", length, brief(list))
			}
		}
	}
}

// Rule 5: an answer is not changed by what becomes of the lists that were handed in, nor of the answers to other calls.
func TestAnswersStay(t *testing.T) {
	p, bounds := some(60, 10), anyBounds(rand.New(rand.NewSource(108)), 20)
	want := definedAll(p, bounds)
	draws, read, e := draw.All(p, bounds)
	clear(p)
	clear(bounds)
	all(some(60, 11), times(20, 250))
	if got := (drawing{Draws: draws, Read: read, Err: e}); !got.same(want) {
		t.Errorf("%v; want %v", got, want)
	}
}

// Rules 1 and 4: nil and empty are the same, and bytes and bounds of one memory are no matter.
func TestNilIsEmpty(t *testing.T) {
	for _, p := range [][]byte{nil, {}, some(5, 12)[2:2]} {
		for _, bounds := range [][]int{nil, {}, []int{3, 4}[1:1]} {
			if got := all(p, bounds); !got.same(drawing{}) {
				t.Errorf("All of nothing: %v", got)
			}
		}
		if got := all(p, []int{2}); !got.same(drawing{Err: api.ErrTape}) {
			t.Errorf("All of no bytes, bound 2: %v", got)
		}
	}
}

// Rule 6: what is answered hangs on no call ahead of it; and many calls at one time answer what each would alone.
func TestManyAtOneTime(t *testing.T) {
	p := some(400, 13)
	bounds := anyBounds(rand.New(rand.NewSource(109)), 100)
	from := tape.New(p)
	var group sync.WaitGroup
	for caller := range 16 {
		group.Add(1)
		go func() {
			defer group.Done()
			for i := range 50 {
				what := fmt.Sprintf("caller %d, call %d", caller, i)
				d := checkAll(t, what, p[caller+i:], bounds[i:])
				checkTurn(t, what, p[caller+i:], bounds[i:], d.Draws)
				v, behind, e := draw.Below(from, 2+i)
				want := definedDraw(p, 2+i)
				if v != want.Value || e != want.Err || behind.Used() != want.Read {
					t.Errorf("%s, Below: %d, Used %d, error %d", what, v, behind.Used(), e)
				}
			}
		}()
	}
	group.Wait()
	checkTape(t, "behind all", from, p, 0)
}

func ExampleBelow() {
	v, t, e := draw.Below(tape.New([]byte{255, 254, 7}), 3)
	fmt.Println(v, t.Left(), int(e))
	v, t, e = draw.Below(t, 1)
	fmt.Println(v, t.Left(), int(e))
	_, _, e = draw.Below(tape.New([]byte{255}), 3)
	fmt.Println(e == api.ErrTape)
	// Output:
	// 2 1 0
	// 0 1 0
	// true
}

func ExampleAll() {
	draws, read, e := draw.All([]byte{255, 254, 7, 9}, []int{3, 1, 256})
	fmt.Println(draws, read, int(e))
	// Output: [2 0 7] 3 0
}
