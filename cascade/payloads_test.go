package cascade_test

import (
	"bytes"
	"fmt"
	"slices"
	"testing"

	"churn/api"
	"churn/cascade"
	"churn/cell"
	"churn/frame"
)

func plain(text string) []byte { return must(cell.Plain([]byte(text))) }

// lastOut: the bytes of a last output with these cells.
func lastOut(cells ...[]byte) []byte { return packed(api.Header{Round: 3, Epoch: 5}, cells...) }

// The cells that cell.Open refuses, in the order of its errors.
var (
	noKind    = turned(plain(""), 0, 3)
	noPayload = turned(plain(""), 1, 49)
	noPad     = turned(plain("abc"), 319, 1)
)

// checkPayloads: what Payloads answers.
func checkPayloads(t *testing.T, what string, raw []byte, want []string, err api.Errno) {
	t.Helper()
	list, e := cascade.Payloads(raw)
	var got []string
	for _, p := range list {
		got = append(got, string(p))
	}
	if e != err || !slices.Equal(got, want) {
		t.Errorf("%s: %q, error %d; want %q, %d", what, got, e, want, err)
	}
}

// P25.1: the payloads in the order of the batch, each as often as it stands there; noise cells, whatever is in them, count for nothing, and a payload of no bytes counts.
func TestPayloads(t *testing.T) {
	noise, noughts := must(cell.Noise(some(319, 2510))), make([]byte, 320)
	most := string(some(48, 2511))
	checkPayloads(t, "no cells", lastOut(), nil, api.OK)
	checkPayloads(t, "one", lastOut(plain("one")), []string{"one"}, api.OK)
	checkPayloads(t, "of no bytes", lastOut(plain("")), []string{""}, api.OK)
	checkPayloads(t, "noise alone", lastOut(noise, noughts, noise), nil, api.OK)
	checkPayloads(t, "in their order", lastOut(plain("b"), plain("c"), plain("a")), []string{"b", "c", "a"}, api.OK)
	checkPayloads(t, "among noise", lastOut(noise, plain("b"), noughts, noise, plain("a"), noise), []string{"b", "a"}, api.OK)
	checkPayloads(t, "the same one twice", lastOut(plain("x"), plain("y"), noise, plain("x")), []string{"x", "y", "x"}, api.OK)
	checkPayloads(t, "no bytes three times", lastOut(plain(""), plain(""), plain("")), []string{"", "", ""}, api.OK)
	checkPayloads(t, "the longest", lastOut(plain(most), plain(most[:47])), []string{most, most[:47]}, api.OK)
	checkPayloads(t, "one that ends with noughts", lastOut(plain("a\x00\x00"), plain("\x00")), []string{"a\x00\x00", "\x00"}, api.OK)
	checkPayloads(t, "a full batch", lastOut(slices.Repeat([][]byte{plain("x"), noise}, 128)...), slices.Repeat([]string{"x"}, 128), api.OK)
}

// P25.1: any last output: each payload is found again.
func TestPayloadsAny(t *testing.T) {
	l := newLot(2512)
	for range fewer(300) {
		var cells [][]byte
		var want []string
		for range l.Intn(20) {
			p := some(l.Intn(49), l.Int63())
			if l.Intn(3) == 0 {
				cells = append(cells, must(cell.Noise(p)))
				continue
			}
			cells, want = append(cells, must(cell.Plain(p))), append(want, string(p))
		}
		checkPayloads(t, "any", packed(api.Header{Round: l.Int63() % top, Epoch: l.Int63() % top}, cells...), want, api.OK)
	}
}

// P25.1: bytes that frame.Read refuses: its error, whatever is in the cells and whatever Left is.
func TestPayloadsOfNoBatch(t *testing.T) {
	raw := lastOut(plain("one"), plain("two"))
	for _, x := range []struct {
		what string
		raw  []byte
		want api.Errno
	}{
		{"no bytes", nil, api.ErrShort},
		{"the letters", turned(raw, 3, 1), api.ErrMagic},
		{"the version", turned(raw, 4, 1), api.ErrVersion},
		{"Left 9", turned(raw, 5, 9), api.ErrHeader},
		{"the count", turned(raw, 6, 9), api.ErrCount},
		{"the round", turned(raw, 8, 64), api.ErrHeader},
		{"the epoch", turned(raw, 16, 128), api.ErrHeader},
		{"a length", turned(raw, 24+322, 1), api.ErrCell},
		{"the foot", turned(raw, len(raw)-1, 1), api.ErrFoot},
		{"Left 1 and the foot that was", turned(raw, 5, 1), api.ErrFoot},
		{"a byte of a cell", turned(raw, 26, 2), api.ErrFoot},
		{"a byte behind", append(slices.Clone(raw), 0), api.ErrMore},
		{"two outputs", append(slices.Clone(raw), raw...), api.ErrMore},
		{"without its last byte", raw[:len(raw)-1], api.ErrShort},
		{"a wrong cell, and broken off", lastOut(noKind, plain("one"))[:500], api.ErrShort},
		{"a wrong cell and a wrong foot", turned(lastOut(noKind), 24+322, 1), api.ErrFoot},
		{"Left 1 and broken off", packed(api.Header{Left: 1}, plain("one"))[:100], api.ErrShort},
	} {
		checkPayloads(t, x.what, x.raw, nil, x.want)
	}
	for at := range raw {
		_, _, e := frame.Read(turned(raw, at, 1<<(at%8)))
		checkPayloads(t, fmt.Sprintf("byte %d turned", at), turned(raw, at, 1<<(at%8)), nil, e)
		_, _, e = frame.Read(raw[:at])
		checkPayloads(t, fmt.Sprintf("%d bytes", at), raw[:at], nil, e)
	}
}

// P25.1: a Left other than 0: ErrHop, ahead of anything that is wrong with the cells, and with no cells too.
func TestPayloadsAheadOfTheEnd(t *testing.T) {
	for left := 1; left <= 8; left++ {
		for _, cells := range [][][]byte{nil, {plain("one")}, {noKind}, {noPad, noPayload}, {make([]byte, 320)}, sentAll(left, 5, 0, 2)} {
			checkPayloads(t, fmt.Sprint("Left ", left), packed(api.Header{Left: left}, cells...), nil, api.ErrHop)
		}
	}
}

// P25.1: a cell that cell.Open refuses, at any place: its error, the first one's, and no payloads beside it.
func TestPayloadsOfWrongCells(t *testing.T) {
	wrong := []struct {
		cell []byte
		want api.Errno
	}{
		{noKind, api.ErrKind}, {turned(plain("a"), 0, 254), api.ErrKind}, {some(320, 2513), api.ErrKind}, {noPayload, api.ErrPayload},
		{turned(plain(""), 1, 255), api.ErrPayload}, {noPad, api.ErrPad}, {turned(plain("abc"), 5, 1), api.ErrPad}, {turned(plain(""), 2, 1), api.ErrPad},
	}
	for _, x := range wrong {
		if _, _, e := cell.Open(x.cell); e != x.want {
			t.Fatalf("cell.Open tells %d; want %d", e, x.want)
		}
		for at := range 4 {
			cells := [][]byte{plain("one"), make([]byte, 320), plain("two")}
			checkPayloads(t, fmt.Sprint("at ", at), lastOut(slices.Insert(cells, at, x.cell)...), nil, x.want)
		}
		for _, y := range wrong {
			checkPayloads(t, "two of them", lastOut(plain("one"), x.cell, y.cell), nil, x.want)
		}
	}
}

// P25.1: what comes out of a server that isn't the last is no last output; what comes out of the last one is, whatever was in the batch.
func TestPayloadsOnTheWay(t *testing.T) {
	for hops := 1; hops <= 5; hops++ {
		p := newPair(t, configs(hops))
		raw := entry(1, 5, hops, append(sentAll(hops, 5, 0, 3), make([]byte, 320), some(320, 2514))...)
		list := p.round(0, raw, loud(hops, 200, 2515))
		if !through(list, hops) {
			t.Fatalf("%d hops:%s", hops, told(list))
		}
		checkPayloads(t, "the entry", raw, nil, api.ErrHop)
		for i, o := range list[:hops-1] {
			checkPayloads(t, fmt.Sprintf("server %d of %d", i, hops), o.Out, nil, api.ErrHop)
		}
		if got := out(t, list); !slices.Equal(got, expected(0, 1, 2)) {
			t.Errorf("%d hops: %q", hops, got)
		}
		b, _, _ := frame.Read(list[hops-1].Out)
		var inOrder [][]byte
		for _, c := range b.Cells {
			if c[0] == 1 {
				inOrder = append(inOrder, c[2:2+c[1]])
			}
		}
		if got := must(cascade.Payloads(list[hops-1].Out)); !slices.EqualFunc(got, inOrder, bytes.Equal) {
			t.Errorf("%d hops: %q; want %q", hops, got, inOrder)
		}
	}
}
