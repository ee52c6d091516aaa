package frame_test

import (
	"bytes"
	"encoding/binary"
	"fmt"
	"hash/adler32"
	"math/rand"
	"slices"
	"testing"

	"churn/api"
	"churn/frame"
)

// some: n bytes of which none is 0, other ones for another seed.
func some(n int, seed int) []byte {
	p := make([]byte, n)
	for i := range p {
		p[i] = byte((i*31+seed*17+i/7)%255) + 1
	}
	return p
}

// cells: n cells, no two of them the same.
func cells(n int) [][]byte {
	var list [][]byte
	for i := range n {
		c := some(320, i)
		binary.BigEndian.PutUint16(c[100:], uint16(i))
		list = append(list, c)
	}
	return list
}

func batch(round, epoch int64, left int, list [][]byte) api.Batch {
	return api.Batch{Header: api.Header{Round: round, Epoch: epoch, Left: left}, Cells: list}
}

// sealed: p and the foot of its bytes behind it.
func sealed(p []byte) []byte {
	return binary.BigEndian.AppendUint32(bytes.Clone(p), adler32.Checksum(p))
}

// bytesOf: the chapter's table of a batch's bytes.
func bytesOf(b api.Batch) []byte {
	p := append([]byte("CHRN"), 1, byte(b.Header.Left))
	p = binary.BigEndian.AppendUint16(p, uint16(len(b.Cells)))
	p = binary.BigEndian.AppendUint64(p, uint64(b.Header.Round))
	p = binary.BigEndian.AppendUint64(p, uint64(b.Header.Epoch))
	for _, c := range b.Cells {
		p = append(append(p, 0x01, 0x40), c...)
	}
	return sealed(p)
}

// with: a copy of p with other bytes from a place on.
func with(p []byte, at int, other ...byte) []byte {
	p = bytes.Clone(p)
	copy(p[at:], other)
	return p
}

// resealed: a whole batch's bytes with others from a place on, and a foot that fits them.
func resealed(p []byte, at int, other ...byte) []byte {
	p = with(p, at, other...)
	return sealed(p[:len(p)-4])
}

// A verdict is what the chapter's words say of bytes: the cells that are whole ahead of a fault, the header, the fault with its place; ErrShort, if there is none but the bytes end too early.
type verdict struct {
	Cells  [][]byte
	Header api.Header
	Known  bool
	At     int
	Err    api.Errno
}

// judged: the chapter's eight points, one by one, over all the bytes.
func judged(raw []byte) verdict {
	v := judgedHead(raw)
	if v.Err != api.OK {
		return v
	}
	v.Known = true
	v.Header = api.Header{
		Left:  int(raw[5]),
		Round: int64(binary.BigEndian.Uint64(raw[8:])),
		Epoch: int64(binary.BigEndian.Uint64(raw[16:])),
	}
	at := 24
	for range binary.BigEndian.Uint16(raw[6:]) {
		switch {
		case len(raw) < at+2:
			return v.refused(len(raw), api.ErrShort)
		case raw[at] != 1 || raw[at+1] != 64:
			return v.refused(at, api.ErrCell)
		case len(raw) < at+322:
			return v.refused(len(raw), api.ErrShort)
		}
		v.Cells = append(v.Cells, raw[at+2:at+322])
		at += 322
	}
	switch {
	case len(raw) < at+4:
		return v.refused(len(raw), api.ErrShort)
	case binary.BigEndian.Uint32(raw[at:]) != adler32.Checksum(raw[:at]):
		return v.refused(at, api.ErrFoot)
	case len(raw) > at+4:
		return v.refused(at+4, api.ErrMore)
	}
	return v
}

// judgedHead: the first five points.
func judgedHead(raw []byte) (v verdict) {
	for _, f := range []struct {
		at, end int
		wrong   func(p []byte) bool
		err     api.Errno
	}{
		{0, 4, func(p []byte) bool { return string(p) != "CHRN" }, api.ErrMagic},
		{4, 5, func(p []byte) bool { return p[0] != 1 }, api.ErrVersion},
		{5, 6, func(p []byte) bool { return p[0] > 8 }, api.ErrHeader},
		{6, 8, func(p []byte) bool { return binary.BigEndian.Uint16(p) > 256 }, api.ErrCount},
		{8, 16, func(p []byte) bool { return binary.BigEndian.Uint64(p) >= 1<<62 }, api.ErrHeader},
		{16, 24, func(p []byte) bool { return binary.BigEndian.Uint64(p) > 1<<62 }, api.ErrHeader},
	} {
		if len(raw) < f.end {
			return v.refused(len(raw), api.ErrShort)
		}
		if f.wrong(raw[f.at:f.end]) {
			return v.refused(f.at, f.err)
		}
	}
	return v
}

func (v verdict) refused(at int, e api.Errno) verdict {
	v.At, v.Err = at, e
	return v
}

func sameCells(a, b [][]byte) bool { return slices.EqualFunc(a, b, bytes.Equal) }

// checkRead: does Read answer what the words say?
func checkRead(t *testing.T, what string, raw []byte) {
	t.Helper()
	b, at, e := frame.Read(raw)
	v := judged(raw)
	if at != v.At || e != v.Err {
		t.Errorf("%s: Read tells %d at %d; want %d at %d", what, e, at, v.Err, v.At)
	}
	if e != api.OK {
		if b.Header != (api.Header{}) || len(b.Cells) != 0 {
			t.Errorf("%s: beside error %d stands a batch: %v with %d cells", what, e, b.Header, len(b.Cells))
		}
		return
	}
	if b.Header != v.Header || !sameCells(b.Cells, v.Cells) {
		t.Errorf("%s: Read answers %v with %d cells; want %v with %d", what, b.Header, len(b.Cells), v.Header, len(v.Cells))
	}
	if p, e := frame.Pack(b); e != api.OK || !bytes.Equal(p, raw) {
		t.Errorf("%s: Pack of what Read answers is not raw", what)
	}
}

// refuses: does Read tell this fault at this place, and do the words?
func refuses(t *testing.T, what string, raw []byte, at int, e api.Errno) {
	t.Helper()
	checkRead(t, what, raw)
	if _, gotAt, got := frame.Read(raw); gotAt != at || got != e {
		t.Errorf("%s: %d at %d; want %d at %d", what, got, gotAt, e, at)
	}
}

// checkFeed: do Header and End answer what the words say of all that was put? Each is asked twice: asking changes nothing.
func checkFeed(t *testing.T, what string, f *frame.Feed, v verdict) {
	t.Helper()
	for range 2 {
		if h, ok := f.Header(); h != v.Header || ok != v.Known {
			t.Fatalf("%s: Header tells %v, %v; want %v, %v", what, h, ok, v.Header, v.Known)
		}
		if at, e := f.End(); at != v.At || e != v.Err {
			t.Fatalf("%s: End tells %d at %d; want %d at %d", what, e, at, v.Err, v.At)
		}
	}
}

// fed: a Feed that is given the pieces, everything asked ahead of each and behind the last; and all cells that it answers.
func fed(t *testing.T, what string, pieces ...[]byte) [][]byte {
	t.Helper()
	f := frame.New()
	var all []byte
	var got [][]byte
	checkFeed(t, what+", no piece yet", f, judged(nil))
	for i, p := range pieces {
		all = append(all, p...)
		v := judged(all)
		list, e := f.Put(p)
		got = append(got, list...)
		step := fmt.Sprintf("%s, piece %d of %d bytes", what, i, len(p))
		if want := fault(v); e != want {
			t.Fatalf("%s: Put tells %d; want %d", step, e, want)
		}
		if !sameCells(got, v.Cells) {
			t.Fatalf("%s: %d cells so far; want %d, or they are others", step, len(got), len(v.Cells))
		}
		checkFeed(t, step, f, v)
	}
	return got
}

// fault: the error that Put tells beside the cells.
func fault(v verdict) api.Errno {
	if v.Err == api.ErrShort {
		return api.OK
	}
	return v.Err
}

// pieces: p cut at the places, which rise.
func pieces(p []byte, places ...int) [][]byte {
	var list [][]byte
	from := 0
	for _, at := range places {
		list = append(list, p[from:at])
		from = at
	}
	return append(list, p[from:])
}

// strewn: p cut anywhere, empty and nil pieces strewn in.
func strewn(r *rand.Rand, p []byte, most int) [][]byte {
	var list [][]byte
	for len(p) > 0 {
		n := min(len(p), r.Intn(most+1))
		list = append(list, p[:n])
		p = p[n:]
		if r.Intn(4) == 0 {
			list = append(list, nil)
		}
	}
	return append(list, nil, []byte{})
}

// A sample is bytes with a name.
type sample struct {
	Name string
	Raw  []byte
}

// samples: batches, and bytes with each fault, some with more than one.
func samples() []sample {
	two := bytesOf(batch(7, 1, 2, cells(2)))
	none := bytesOf(batch(7, 1, 2, nil))
	foot := len(two) - 4
	return []sample{
		{"no bytes", nil},
		{"a batch without cells", none},
		{"a batch of one cell", bytesOf(batch(1<<62-1, 1<<62, 8, cells(1)))},
		{"a batch of two cells", two},
		{"a batch of cells of noughts", bytesOf(batch(0, 0, 0, [][]byte{make([]byte, 320), make([]byte, 320)}))},
		{"a batch cut off in a cell", two[:500]},
		{"a batch cut off in the foot", two[:foot+3]},
		{"other letters", with(two, 3, 'M')},
		{"another version", with(two, 4, 2)},
		{"a great Left", with(two, 5, 9)},
		{"a great count", with(two, 6, 1, 1)},
		{"a great round", with(two, 8, 0x40)},
		{"a great epoch", with(two, 16, 0x80)},
		{"a count of one more", with(two, 7, 3)},
		{"a count of one less", with(two, 7, 1)},
		{"another first length", with(two, 24, 1, 65)},
		{"another second length", with(two, 24+322, 0)},
		{"a turned cell", with(two, 30, 0)},
		{"another foot", with(two, foot+3, two[foot+3]+1)},
		{"a byte behind the foot", append(bytes.Clone(two), 0)},
		{"a batch behind the foot", append(bytes.Clone(two), none...)},
		{"a byte behind another foot", append(with(two, foot, two[foot]+1), 7)},
		{"all kinds of faults", bytes.Repeat([]byte{0xff}, 400)},
		{"a second length and a foot", with(with(two, 24+322, 0), foot, 0, 0, 0, 0)},
	}
}
