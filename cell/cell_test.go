package cell_test

import (
	"bytes"
	"fmt"
	"math"
	"math/rand"
	"slices"
	"sync"
	"testing"

	"churn/api"
	"churn/cell"
)

// lengths are the sizes of lists about every limit that the chapter names, and far past them.
var lengths = []int{0, 1, 2, 47, 48, 49, 50, 255, 256, 303, 304, 305, 317, 318, 319, 320, 321, 322, 576, 640, 65536 + 1, 65536 + 320}

// some: n bytes of which none is 0, other ones for another seed.
func some(n int, seed byte) []byte {
	p := make([]byte, n)
	for i := range p {
		p[i] = byte((i*31+int(seed)*17)%255) + 1
	}
	return p
}

func join(pieces ...[]byte) []byte { return bytes.Join(pieces, nil) }

// cellOf: the pieces and noughts behind them.
func cellOf(pieces ...[]byte) []byte {
	p := join(pieces...)
	return append(p, make([]byte, 320-len(p))...)
}

// onlyNoughts: no byte but 0.
func onlyNoughts(p []byte) bool { return len(bytes.Trim(p, "\x00")) == 0 }

// An answer is what a call gave; the calls without a bool leave Yes false.
type answer struct {
	List []byte
	Yes  bool
	Err  api.Errno
}

func refused(e api.Errno) answer { return answer{Err: e} }
func made(list []byte) answer    { return answer{List: list} }

func (a answer) same(b answer) bool {
	return bytes.Equal(a.List, b.List) && a.Yes == b.Yes && a.Err == b.Err
}

func (a answer) String() string {
	return fmt.Sprintf("%d bytes %.60x, %v, error %d", len(a.List), a.List, a.Yes, a.Err)
}

func check(t *testing.T, what string, got, want answer) {
	t.Helper()
	if !got.same(want) {
		t.Errorf("%s: %v; want %v", what, got, want)
	}
}

func pad(p []byte) answer        { c, e := cell.Pad(p); return answer{c, false, e} }
func cut(c []byte, n int) answer { p, e := cell.Cut(c, n); return answer{p, false, e} }
func plain(p []byte) answer      { c, e := cell.Plain(p); return answer{c, false, e} }
func noise(p []byte) answer      { c, e := cell.Noise(p); return answer{c, false, e} }
func open(c []byte) answer       { p, yes, e := cell.Open(c); return answer{p, yes, e} }
func payload(p []byte) answer    { return answer{p, true, api.OK} }
func noPayload() answer          { return answer{nil, false, api.OK} }

// with: a copy of c with the byte b at a place.
func with(c []byte, at int, b byte) []byte {
	c = bytes.Clone(c)
	c[at] = b
	return c
}

// definedCut: the chapter's words.
func definedCut(c []byte, n int) answer {
	switch {
	case len(c) != 320:
		return refused(api.ErrSize)
	case n < 0 || n > 320:
		return refused(api.ErrArg)
	case !onlyNoughts(c[n:]):
		return refused(api.ErrPad)
	}
	return made(c[:n])
}

// definedOpen: the chapter's words, in their order.
func definedOpen(c []byte) answer {
	switch {
	case len(c) != 320:
		return refused(api.ErrSize)
	case c[0] > 1:
		return refused(api.ErrKind)
	case c[0] == 0:
		return noPayload()
	case c[1] > 48:
		return refused(api.ErrPayload)
	case !onlyNoughts(c[2+int(c[1]):]):
		return refused(api.ErrPad)
	}
	return payload(c[2 : 2+int(c[1])])
}

// P5.1: the chapter's examples.
func TestExamples(t *testing.T) {
	check(t, "Plain of hi", plain([]byte("hi")), made(append([]byte{1, 2, 0x68, 0x69}, make([]byte, 316)...)))
	check(t, "Plain of no bytes", plain(nil), made(append([]byte{1}, make([]byte, 319)...)))
	check(t, "Plain of 49 bytes", plain(make([]byte, 49)), refused(api.ErrLong))

	check(t, "Open of 320 noughts", open(make([]byte, 320)), noPayload())
	check(t, "Open of 02", open(cellOf([]byte{2})), refused(api.ErrKind))
	check(t, "Open of 01 31", open(cellOf([]byte{1, 0x31})), refused(api.ErrPayload))
	check(t, "Open of 01 00 01", open(cellOf([]byte{1, 0, 1})), refused(api.ErrPad))
	for _, c := range [][]byte{make([]byte, 319), some(319, 1), cellOf([]byte{1, 2, 3, 4})[:319], cellOf([]byte{2})[:319]} {
		check(t, "Open of 319 bytes", open(c), refused(api.ErrSize))
	}

	check(t, "Pad of 320 bytes", pad(some(320, 2)), made(some(320, 2)))
	ab := pad([]byte("ab"))
	check(t, "Pad of ab", ab, made(cellOf([]byte("ab"))))
	check(t, "Cut to 1", cut(ab.List, 1), refused(api.ErrPad))
	check(t, "Cut to 3", cut(ab.List, 3), made([]byte("ab\x00")))
	check(t, "Cut to -1", cut(ab.List, -1), refused(api.ErrArg))
	check(t, "Cut to 321", cut(ab.List, 321), refused(api.ErrArg))
}

// P5.1: the errors' numbers are those that the chapter gives.
func TestNumbersOfErrors(t *testing.T) {
	for _, c := range []struct {
		got  answer
		want int
	}{
		{pad(make([]byte, 321)), 1},
		{cut(make([]byte, 320), 321), 2},
		{open(make([]byte, 321)), 50},
		{cut(cellOf([]byte{1}), 0), 51},
		{open(cellOf([]byte{2})), 52},
		{open(cellOf([]byte{1, 49})), 53},
	} {
		check(t, fmt.Sprint("error ", c.want), c.got, answer{Err: api.Errno(c.want)})
	}
}

// P5.1: Pad of lists of every length up to past a cell's, bytes of all kinds.
func TestPadOfEveryLength(t *testing.T) {
	for n := range 400 {
		for _, p := range [][]byte{some(n, 3), make([]byte, n), bytes.Repeat([]byte{0xff}, n)} {
			want := refused(api.ErrLong)
			if n <= 320 {
				want = made(cellOf(p))
			}
			check(t, fmt.Sprintf("Pad of %d bytes", n), pad(p), want)
		}
	}
}

// P5.1: Plain of lists of every length up to past a payload's and a cell's.
func TestPlainOfEveryLength(t *testing.T) {
	for n := range 400 {
		for _, p := range [][]byte{some(n, 4), make([]byte, n), bytes.Repeat([]byte{0xff}, n)} {
			want := refused(api.ErrLong)
			if n <= 48 {
				want = made(cellOf([]byte{1, byte(n)}, p))
			}
			check(t, fmt.Sprintf("Plain of %d bytes", n), plain(p), want)
		}
	}
}

// P5.1: Noise of lists of every length up to past a cell's.
func TestNoiseOfEveryLength(t *testing.T) {
	for n := range 400 {
		for _, p := range [][]byte{some(n, 5), make([]byte, n), bytes.Repeat([]byte{0xff}, n)} {
			want := refused(api.ErrLong)
			if n <= 319 {
				want = made(cellOf([]byte{0}, p))
			}
			check(t, fmt.Sprintf("Noise of %d bytes", n), noise(p), want)
		}
	}
}

// P5.1: lists that are far too long, some of them by a number of bytes that a byte or two would not tell.
func TestFarTooLong(t *testing.T) {
	for _, n := range []int{321, 576, 1 << 16, 1<<16 + 1, 1<<16 + 48, 1<<16 + 320, 1<<20 + 7} {
		p := make([]byte, n)
		what := fmt.Sprintf(" of %d bytes", n)
		check(t, "Pad"+what, pad(p), refused(api.ErrLong))
		check(t, "Plain"+what, plain(p), refused(api.ErrLong))
		check(t, "Noise"+what, noise(p), refused(api.ErrLong))
		check(t, "Open"+what, open(p), refused(api.ErrSize))
		check(t, "Cut"+what, cut(p, 0), refused(api.ErrSize))
	}
}

// P5.1 and rule 4: nil and empty are one and the same.
func TestNilIsEmpty(t *testing.T) {
	for _, p := range [][]byte{nil, {}, make([]byte, 0, 500), some(320, 6)[:0]} {
		check(t, "Pad of nothing", pad(p), made(make([]byte, 320)))
		check(t, "Plain of nothing", plain(p), made(cellOf([]byte{1, 0})))
		check(t, "Noise of nothing", noise(p), made(make([]byte, 320)))
		check(t, "Open of nothing", open(p), refused(api.ErrSize))
		for _, n := range []int{-1, 0, 1, 320, 321} {
			check(t, "Cut of nothing", cut(p, n), refused(api.ErrSize))
		}
	}
}

// P5.1: Cut of a cell without, with one and with only bytes that aren't 0, at every number about its range, and at both ends of an int.
func TestCutToEveryNumber(t *testing.T) {
	cells := [][]byte{make([]byte, 320), some(320, 7), cellOf(some(1, 7)), cellOf(some(319, 7)), cellOf(some(48, 7)), with(make([]byte, 320), 319, 1)}
	for i, c := range cells {
		for n := -330; n <= 660; n++ {
			check(t, fmt.Sprintf("cell %d to %d", i, n), cut(c, n), definedCut(c, n))
		}
		for _, n := range []int{math.MinInt, math.MinInt + 1, math.MinInt32, -321, -320, -319, 1 << 16, 1<<16 + 320, math.MaxInt32, 1 << 32, 1<<32 + 320, math.MaxInt - 1, math.MaxInt} {
			check(t, fmt.Sprintf("cell %d to %d", i, n), cut(c, n), refused(api.ErrArg))
		}
	}
	full := some(320, 8)
	for n, want := range map[int]answer{-1: refused(api.ErrArg), 0: refused(api.ErrPad), 1: refused(api.ErrPad), 319: refused(api.ErrPad), 320: made(full), 321: refused(api.ErrArg)} {
		check(t, fmt.Sprintf("a full cell to %d", n), cut(full, n), want)
	}
}

// P5.1: one byte that isn't 0, at each place, and a Cut to each number: ErrPad just where the byte is left out, whichever of its bits is set.
func TestCutSeesEveryByte(t *testing.T) {
	for at := range 320 {
		c := with(make([]byte, 320), at, 1<<(at%8))
		for n := range 321 {
			want := made(c[:n])
			if at >= n {
				want = refused(api.ErrPad)
			}
			check(t, fmt.Sprintf("a byte at %d, cut to %d", at, n), cut(c, n), want)
		}
	}
	for b := 1; b < 256; b++ {
		check(t, fmt.Sprintf("the byte %d last", b), cut(with(make([]byte, 320), 319, byte(b)), 319), refused(api.ErrPad))
	}
}

// P5.1 and rule 2: Cut's errors come in the order of the chapter's list: a wrong size ahead of a wrong number, that ahead of a byte that should be a nought.
func TestOrderOfCutsErrors(t *testing.T) {
	for _, n := range lengths {
		for _, to := range []int{math.MinInt, -1, 0, 1, 319, 320, 321, math.MaxInt} {
			for _, c := range [][]byte{make([]byte, n), some(n, 9)} {
				check(t, fmt.Sprintf("%d bytes to %d", n, to), cut(c, to), definedCut(c, to))
				if n != 320 {
					check(t, fmt.Sprintf("%d bytes to %d", n, to), cut(c, to), refused(api.ErrSize))
				}
			}
		}
	}
	check(t, "2 bytes to -1", cut([]byte("ab"), -1), refused(api.ErrSize))
	check(t, "321 bytes to 321", cut(some(321, 1), 321), refused(api.ErrSize))
	check(t, "a full cell to -1", cut(some(320, 1), -1), refused(api.ErrArg))
	check(t, "a full cell to 321", cut(some(320, 1), 321), refused(api.ErrArg))
}

// P5.1: Open of cells of each kind and length, with noughts behind them, with one other byte, and full.
func TestOpenOfEveryHead(t *testing.T) {
	for kind := range 256 {
		for length := range 256 {
			head := []byte{byte(kind), byte(length)}
			for _, c := range [][]byte{
				cellOf(head),
				cellOf(head, some(min(length, 318), 10)),
				cellOf(head, some(min(length+1, 318), 10)),
				with(cellOf(head), 319, 0x80),
				join(head, some(318, 11)),
			} {
				check(t, fmt.Sprintf("Open of %.60x", c), open(c), definedOpen(c))
			}
		}
	}
}

// P5.1 and rule 2: Open's errors come in the order of the chapter's list, where a list meets more than one.
func TestOrderOfOpensErrors(t *testing.T) {
	for _, n := range lengths {
		if n == 320 {
			continue
		}
		for _, head := range [][]byte{{0}, {0, 9}, {1}, {1, 48}, {1, 49}, {2}, {2, 49}, {255, 255}} {
			c := join(head, some(n, 12))[:n]
			check(t, fmt.Sprintf("%d bytes, %x first", n, head), open(c), refused(api.ErrSize))
		}
	}
	for _, c := range []struct {
		what string
		cell []byte
		want answer
	}{
		{"a wrong kind ahead of a wrong length", cellOf([]byte{2, 49}), refused(api.ErrKind)},
		{"a wrong kind ahead of a byte", cellOf([]byte{2, 0, 1}), refused(api.ErrKind)},
		{"a wrong kind ahead of both", join([]byte{255, 255}, some(318, 13)), refused(api.ErrKind)},
		{"a wrong length ahead of a byte", join([]byte{1, 49}, some(318, 13)), refused(api.ErrPayload)},
		{"the greatest length", join([]byte{1, 255}, some(318, 13)), refused(api.ErrPayload)},
		{"a length past the cell's end", cellOf([]byte{1, 255}), refused(api.ErrPayload)},
		{"noise with a length and bytes", join([]byte{0, 255}, some(318, 13)), noPayload()},
	} {
		check(t, c.what, open(c.cell), c.want)
	}
}

// P5.1: a byte that isn't 0 at each place behind a payload, of each length that a payload can have.
func TestOpenSeesEveryByte(t *testing.T) {
	for length := range 49 {
		c := cellOf([]byte{1, byte(length)}, some(length, 14))
		for at := 2; at < 320; at++ {
			other := with(c, at, c[at]^1<<(at%8))
			want := refused(api.ErrPad)
			if at < 2+length {
				want = payload(other[2 : 2+length])
			}
			check(t, fmt.Sprintf("a payload of %d, the byte at %d", length, at), open(other), want)
		}
	}
}

// P5.1: what stands behind a noise cell's first byte isn't looked at.
func TestNoiseIsNotLookedAt(t *testing.T) {
	for at := 1; at < 320; at++ {
		for _, b := range []byte{1, 49, 255} {
			check(t, fmt.Sprintf("the byte %d at %d", b, at), open(with(make([]byte, 320), at, b)), noPayload())
		}
	}
}

// P5.2: Open of Plain is the payload, for each length and for bytes that look like heads and noughts.
func TestOpenOfPlain(t *testing.T) {
	for n := range 49 {
		for _, p := range [][]byte{some(n, 15), make([]byte, n), bytes.Repeat([]byte{1}, n), bytes.Repeat([]byte{0xff}, n), append(some(n, 16)[:n/2], make([]byte, n-n/2)...)} {
			check(t, fmt.Sprintf("Open(Plain(%x))", p), open(plain(p).List), payload(p))
		}
	}
	check(t, "Open(Plain(nil))", open(plain(nil).List), payload(nil))
}

// P5.2: Open of Noise is false, with OK, whatever the noise.
func TestOpenOfNoise(t *testing.T) {
	for n := range 320 {
		for _, p := range [][]byte{some(n, 17), make([]byte, n), bytes.Repeat([]byte{1}, n), bytes.Repeat([]byte{0xff}, n)} {
			check(t, fmt.Sprintf("Open(Noise(%.40x))", p), open(noise(p).List), noPayload())
		}
	}
	check(t, "Open(Noise(nil))", open(noise(nil).List), noPayload())
}

// P5.2: payloads that aren't the same have other plain cells: noughts at the end, noughts ahead, one bit.
func TestPlainIsOneToOne(t *testing.T) {
	seen := map[string]string{}
	note := func(p []byte) {
		c := string(plain(p).List)
		if other, there := seen[c]; there && other != string(p) {
			t.Errorf("Plain of %x is Plain of %x", p, other)
		}
		seen[c] = string(p)
	}
	for n := range 49 {
		note(make([]byte, n))
		note(some(n, 18))
		note(bytes.Repeat([]byte{1}, n))
		for at := range n {
			for bit := range 8 {
				note(with(make([]byte, n), at, 1<<bit))
				p := some(n, 18)
				note(with(p, at, p[at]^1<<bit))
			}
		}
	}
	if len(seen) < 2*8*48*49/2 {
		t.Errorf("only %d plain cells", len(seen))
	}
}

// P5.3: a cell of which Open answers true is Plain of what it answers; cells about those that open, and cells without a rule.
func TestPlainOfOpen(t *testing.T) {
	opened := 0
	try := func(c []byte) {
		got := open(c)
		check(t, fmt.Sprintf("Open of %.60x", c), got, definedOpen(c))
		if !got.Yes {
			return
		}
		opened++
		check(t, "Plain of what it answers", plain(got.List), made(c))
	}
	r := rand.New(rand.NewSource(53))
	for range 20000 {
		c := make([]byte, 320)
		r.Read(c[:r.Intn(60)])
		c[0], c[1] = byte(r.Intn(3)), byte(r.Intn(60))
		try(c)
	}
	for length := range 256 {
		for filled := range 60 {
			try(cellOf([]byte{1, byte(length)}, some(filled, 19)))
		}
	}
	if opened < 2000 {
		t.Errorf("only %d cells opened", opened)
	}
}

// P5.4: Cut of Pad to the length is the list; to less it is ErrPad, unless the bytes that are left out are all 0.
func TestCutOfPad(t *testing.T) {
	for n := range 321 {
		for _, p := range [][]byte{some(n, 20), make([]byte, n), append(some(n/2, 21), make([]byte, n-n/2)...), append(make([]byte, n-n/2), some(n/2, 21)...)} {
			c := pad(p)
			check(t, fmt.Sprintf("Cut(Pad(p), %d)", n), cut(c.List, n), made(p))
			for less := range n {
				want := refused(api.ErrPad)
				if onlyNoughts(p[less:]) {
					want = made(p[:less])
				}
				check(t, fmt.Sprintf("Cut of Pad of %d bytes to %d", n, less), cut(c.List, less), want)
			}
		}
	}
}

// P5.4: to more than the length it is the list and noughts.
func TestCutOfPadToMore(t *testing.T) {
	for n := range 321 {
		p := some(n, 22)
		c := pad(p)
		for more := n; more <= 320; more++ {
			check(t, fmt.Sprintf("Cut of Pad of %d bytes to %d", n, more), cut(c.List, more), made(join(p, make([]byte, more-n))))
		}
	}
}

// P5.1: lists without a rule, held against the chapter's words.
func TestAnyBytes(t *testing.T) {
	r := rand.New(rand.NewSource(51))
	for range 5000 {
		p := make([]byte, lengths[r.Intn(20)])
		r.Read(p)
		check(t, "Open", open(p), definedOpen(p))
		n := r.Intn(340) - 10
		clear(p[min(len(p), r.Intn(340)):])
		check(t, fmt.Sprint("Cut to ", n), cut(p, n), definedCut(p, n))
	}
}

// calls: each call with a list, by name, so that the rules of memory are held against all of them.
func calls() map[string]func([]byte) answer {
	all := map[string]func([]byte) answer{"Pad": pad, "Plain": plain, "Noise": noise, "Open": open}
	for _, n := range []int{-1, 0, 1, 319, 320, 321} {
		all[fmt.Sprint("Cut to ", n)] = func(c []byte) answer { return cut(c, n) }
	}
	return all
}

// handed: lists that some call takes, and lists that all refuse.
func handed() [][]byte {
	lists := [][]byte{make([]byte, 320), some(320, 23), cellOf(some(1, 23)), cellOf([]byte{0}, some(48, 23)), cellOf([]byte{1, 48}, some(48, 23)), cellOf([]byte{1, 0}), cellOf([]byte{1, 49}), cellOf([]byte{2}), cellOf([]byte{1, 0, 1})}
	for _, n := range []int{0, 1, 47, 48, 49, 318, 319, 321} {
		lists = append(lists, some(n, 24))
	}
	return lists
}

// withRoom: p in the midst of other bytes, which are its spare room too; and all of them.
func withRoom(p []byte) (inside, all []byte) {
	all = join(some(20, 77), p, some(400, 78))
	return all[20 : 20+len(p)], all
}

// Rule 5: what is handed in stays as it is, its spare room too, and it tells nothing: the answer is that of a list without room.
func TestHandedInStays(t *testing.T) {
	for name, call := range calls() {
		for _, p := range handed() {
			inside, all := withRoom(p)
			before := bytes.Clone(all)
			check(t, name+" of a list with room", call(inside), call(slices.Clip(bytes.Clone(p))))
			if !bytes.Equal(all, before) {
				t.Errorf("%s of %d bytes: the list, or what lies about it, has changed", name, len(p))
			}
		}
	}
}

// Rule 5: an answer is memory of its own: written over, room and all, it changes neither the list nor another answer; and the list written over changes no answer.
func TestAnswersAreNew(t *testing.T) {
	for name, call := range calls() {
		for _, p := range handed() {
			inside, all := withRoom(p)
			before := bytes.Clone(all)
			first, second := call(inside), call(inside)
			want := answer{bytes.Clone(second.List), second.Yes, second.Err}
			clear(first.List[:cap(first.List)])
			check(t, name+": beside an answer that is written over", second, want)
			if !bytes.Equal(all, before) {
				t.Errorf("%s of %d bytes: the answer shares memory with the list", name, len(p))
			}
			clear(all)
			check(t, name+": beside a list that is written over", second, want)
			check(t, name+": asked again", call(p), want)
		}
	}
}

// Rule 3: beside an error, and beside the false of a noise cell, nothing else is answered.
func TestNothingBesideAnError(t *testing.T) {
	for name, call := range calls() {
		for _, p := range handed() {
			a := call(p)
			if a.Err != api.OK && (len(a.List) != 0 || a.Yes) {
				t.Errorf("%s of %d bytes: %v", name, len(p), a)
			}
			if name == "Open" && !a.Yes && len(a.List) != 0 {
				t.Errorf("Open: false, and %d bytes", len(a.List))
			}
		}
	}
}

// Rule 6: many calls at one time, over the same lists, answer as one alone does.
func TestManyAtOneTime(t *testing.T) {
	lists := handed()
	var all sync.WaitGroup
	for name, call := range calls() {
		for _, p := range lists {
			want := call(p)
			for range 4 {
				all.Add(1)
				go func() {
					defer all.Done()
					check(t, name, call(p), want)
				}()
			}
		}
	}
	all.Wait()
}

func ExamplePlain() {
	c, e := cell.Plain([]byte("hi"))
	fmt.Printf("%d bytes, %x .., error %d\n", len(c), c[:6], e)
	p, yes, e := cell.Open(c)
	fmt.Printf("%s, %v, error %d\n", p, yes, e)
	// Output:
	// 320 bytes, 010268690000 .., error 0
	// hi, true, error 0
}

func ExampleCut() {
	c, _ := cell.Pad([]byte("ab"))
	p, e := cell.Cut(c, 2)
	fmt.Printf("%s, error %d\n", p, e)
	p, e = cell.Cut(c, 1)
	fmt.Printf("%d bytes, error %d\n", len(p), e)
	// Output:
	// ab, error 0
	// 0 bytes, error 51
}
