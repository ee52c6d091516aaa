package tape_test

import (
	"bytes"
	"fmt"
	"reflect"
	"slices"
	"testing"

	"churn/api"
	"churn/tape"
)

// some: n bytes, no two neighbours alike, other ones for another seed.
func some(n int, seed byte) []byte {
	p := make([]byte, n)
	for i := range p {
		p[i] = byte(i*31+i/256*7) ^ byte(int(seed)*37)
	}
	return p
}

func join(pieces ...[]byte) []byte { return bytes.Join(pieces, nil) }

// withRoom: p in the midst of other bytes, which are its spare room too; and all of them.
func withRoom(p []byte) (inside, all []byte) {
	all = join(some(20, 77), p, some(400, 78))
	return all[20 : 20+len(p)], all
}

// A place is the chapter's Tape: bytes, and how many of them have been read. Its bytes are its own, so that no other place can show in it.
type place struct {
	of   []byte
	used int
}

func (p place) left() int { return len(p.of) - p.used }

// behind: the place of the same bytes of which n more have been read.
func (p place) behind(n int) place { return place{bytes.Clone(p.of), p.used + n} }

// read: what a call that reads must answer.
type read struct {
	List []byte
	Tape place
	Err  api.Errno
}

// definedTake: the chapter's words, in their order.
func definedTake(p place, n int) read {
	switch {
	case n < 0:
		return read{Err: api.ErrArg}
	case n > p.left():
		return read{Err: api.ErrTape}
	}
	return read{p.of[p.used:][:n], p.behind(n), api.OK}
}

// definedByte: the chapter's words; the byte is a list of one, and of none beside an error.
func definedByte(p place) read {
	if p.left() == 0 {
		return read{Err: api.ErrTape}
	}
	return read{p.of[p.used:][:1], p.behind(1), api.OK}
}

// checkCounts: what is answered without reading.
func checkCounts(t *testing.T, what string, got tape.Tape, want place) {
	t.Helper()
	if got.Left() != want.left() || got.Used() != want.used {
		t.Errorf("%s: Left %d, Used %d; want %d, %d", what, got.Left(), got.Used(), want.left(), want.used)
	}
}

// checkTape: a tape's counts and all that is left of it, at once and byte by byte.
func checkTape(t *testing.T, what string, got tape.Tape, want place) {
	t.Helper()
	checkCounts(t, what, got, want)
	rest, end, e := got.Take(want.left())
	if !bytes.Equal(rest, want.of[want.used:]) || e != api.OK || end.Left() != 0 || end.Used() != len(want.of) {
		t.Errorf("%s: the rest: %.60x, Left %d, Used %d, error %d; want %.60x", what, rest, end.Left(), end.Used(), e, want.of[want.used:])
	}
	for at, b := range want.of[want.used:] {
		next, behind, e := got.Byte()
		if next != b || e != api.OK {
			t.Fatalf("%s: byte %d of the rest: %d, error %d; want %d", what, at, next, e, b)
		}
		got = behind
	}
	if got.Left() != 0 || got.Used() != len(want.of) {
		t.Errorf("%s: behind its last byte: Left %d, Used %d; want 0, %d", what, got.Left(), got.Used(), len(want.of))
	}
}

// checkZero: the zero Tape, to the eye and by its answers.
func checkZero(t *testing.T, what string, z tape.Tape) {
	t.Helper()
	if !reflect.ValueOf(z).IsZero() {
		t.Errorf("%s: not the zero Tape", what)
	}
	if z.Left() != 0 || z.Used() != 0 {
		t.Errorf("%s: Left %d, Used %d; want 0, 0", what, z.Left(), z.Used())
	}
}

// checkTake: one Take held against the chapter's words; answered is the tape behind it.
func checkTake(t *testing.T, what string, a tape.Tape, p place, n int) (tape.Tape, read) {
	t.Helper()
	want := definedTake(p, n)
	list, behind, e := a.Take(n)
	if !bytes.Equal(list, want.List) || e != want.Err {
		t.Errorf("%s, Take(%d): %.60x, error %d; want %.60x, error %d", what, n, list, e, want.List, want.Err)
	}
	checkBehind(t, fmt.Sprintf("%s, behind Take(%d)", what, n), behind, want)
	checkCounts(t, fmt.Sprintf("%s, still itself beside Take(%d)", what, n), a, p)
	return behind, want
}

// checkByte: one Byte held against the chapter's words; answered is the tape behind it.
func checkByte(t *testing.T, what string, a tape.Tape, p place) (tape.Tape, read) {
	t.Helper()
	want := definedByte(p)
	var next byte
	if want.Err == api.OK {
		next = want.List[0]
	}
	b, behind, e := a.Byte()
	if b != next || e != want.Err {
		t.Errorf("%s, Byte: %d, error %d; want %d, error %d", what, b, e, next, want.Err)
	}
	checkBehind(t, what+", behind Byte", behind, want)
	checkCounts(t, what+", still itself beside Byte", a, p)
	return behind, want
}

func checkBehind(t *testing.T, what string, behind tape.Tape, want read) {
	t.Helper()
	if want.Err != api.OK {
		checkZero(t, what, behind)
		return
	}
	checkCounts(t, what, behind, want.Tape)
}

// parted: what Split answers.
type parted struct {
	Parts api.Parts
	Err   api.Errno
}

func split(p []byte, chunks int) parted {
	parts, e := tape.Split(p, chunks)
	return parted{parts, e}
}

func (a parted) same(b parted) bool {
	return a.Err == b.Err && bytes.Equal(a.Parts.Noise, b.Parts.Noise) && bytes.Equal(a.Parts.Braid, b.Parts.Braid) &&
		slices.EqualFunc(a.Parts.Chunks, b.Parts.Chunks, bytes.Equal)
}

func (a parted) String() string {
	return fmt.Sprintf("Noise %.30x, Braid %.30x, %d Chunks %.90x, error %d", a.Parts.Noise, a.Parts.Braid, len(a.Parts.Chunks), a.Parts.Chunks, a.Err)
}

// lists: all lists of the answer, one behind the other.
func (a parted) lists() [][]byte {
	return append([][]byte{a.Parts.Noise, a.Parts.Braid}, a.Parts.Chunks...)
}

func (a parted) clone() parted {
	c := parted{api.Parts{Noise: bytes.Clone(a.Parts.Noise), Braid: bytes.Clone(a.Parts.Braid)}, a.Err}
	for _, p := range a.Parts.Chunks {
		c.Parts.Chunks = append(c.Parts.Chunks, bytes.Clone(p))
	}
	return c
}

// definedSplit: the words of the chapter and of 'The round's tape', told for each byte by its place, so that no byte can be two parts'.
func definedSplit(p []byte, chunks int) parted {
	switch {
	case chunks < 1 || chunks > 64:
		return parted{Err: api.ErrArg}
	case len(p) < 18:
		return parted{Err: api.ErrTape}
	}
	r := len(p) - 18
	s := r - r/2
	q := s / chunks
	parts := api.Parts{Chunks: make([][]byte, chunks)}
	for at, b := range p {
		behind := at - 18 - r/2
		switch {
		case at < 18:
			parts.Noise = append(parts.Noise, b)
		case behind < 0:
			parts.Braid = append(parts.Braid, b)
		case q > 0 && behind/q < chunks:
			parts.Chunks[behind/q] = append(parts.Chunks[behind/q], b)
		}
	}
	return parted{parts, api.OK}
}

func checkSplit(t *testing.T, what string, got, want parted) {
	t.Helper()
	if !got.same(want) {
		t.Errorf("%s: %v; want %v", what, got, want)
	}
}
