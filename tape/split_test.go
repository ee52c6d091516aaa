package tape_test

import (
	"bytes"
	"fmt"
	"math"
	"math/rand"
	"testing"

	"churn/api"
	"churn/tape"
)

// numbered: the bytes 0, 1, 2 and so on.
func numbered(n int) []byte {
	p := make([]byte, n)
	for i := range p {
		p[i] = byte(i)
	}
	return p
}

func parts(noise, braid []byte, chunks ...[]byte) parted {
	return parted{api.Parts{Noise: noise, Braid: braid, Chunks: chunks}, api.OK}
}

// P9.2: the chapter's examples, and the one of DOC.md's list.
func TestSplitExamples(t *testing.T) {
	p := numbered(31)
	checkSplit(t, "31 bytes, 3", split(p, 3), parts(p[:18], []byte{18, 19, 20, 21, 22, 23}, []byte{24, 25}, []byte{26, 27}, []byte{28, 29}))
	checkSplit(t, "18 bytes, 64", split(p[:18], 64), parts(p[:18], nil, make([][]byte, 64)...))
	checkSplit(t, "17 bytes, 0", split(p[:17], 0), parted{Err: api.ErrArg})
	checkSplit(t, "17 bytes, 1", split(p[:17], 1), parted{Err: api.ErrTape})

	p = numbered(60)
	checkSplit(t, "60 bytes, 2", split(p, 2), parts(p[:18], p[18:39], p[39:49], p[49:59]))
}

// P9.2: the parts' lengths, as another program reckoned them: of how many bytes, in how many chunks; the braid's part, a chunk's, and what is not read.
func TestKnownLengths(t *testing.T) {
	for _, k := range []struct{ n, chunks, braid, chunk, unread int }{
		{18, 1, 0, 0, 0},
		{18, 2, 0, 0, 0},
		{18, 64, 0, 0, 0},
		{19, 1, 0, 1, 0},
		{19, 2, 0, 0, 1},
		{20, 1, 1, 1, 0},
		{20, 2, 1, 0, 1},
		{21, 1, 1, 2, 0},
		{21, 2, 1, 1, 0},
		{21, 3, 1, 0, 2},
		{22, 2, 2, 1, 0},
		{60, 1, 21, 21, 0},
		{60, 64, 21, 0, 21},
		{143, 64, 62, 0, 63},
		{144, 64, 63, 0, 63},
		{145, 64, 63, 1, 0},
		{146, 64, 64, 1, 0},
		{271, 64, 126, 1, 63},
		{272, 64, 127, 1, 63},
		{273, 64, 127, 2, 0},
		{274, 64, 128, 2, 0},
		{1000, 7, 491, 70, 1},
		{1000, 64, 491, 7, 43},
		{4096, 10, 2039, 203, 9},
		{65536, 64, 32759, 511, 55},
		{65537, 63, 32759, 520, 0},
	} {
		got := split(some(k.n, 21), k.chunks)
		what := fmt.Sprintf("%d bytes, %d", k.n, k.chunks)
		if got.Err != api.OK || len(got.Parts.Noise) != 18 || len(got.Parts.Braid) != k.braid || len(got.Parts.Chunks) != k.chunks {
			t.Errorf("%s: Noise %d, Braid %d, Chunks %d, error %d", what, len(got.Parts.Noise), len(got.Parts.Braid), len(got.Parts.Chunks), got.Err)
		}
		for j, c := range got.Parts.Chunks {
			if len(c) != k.chunk {
				t.Errorf("%s: chunk %d has %d bytes; want %d", what, j, len(c), k.chunk)
			}
		}
		if unread := k.n - len(join(got.lists()...)); unread != k.unread {
			t.Errorf("%s: %d bytes are not read; want %d", what, unread, k.unread)
		}
	}
}

// checkParts: what the promise says of the parts, whatever the words are.
func checkParts(t *testing.T, p []byte, chunks int) {
	t.Helper()
	what := fmt.Sprintf("%d bytes, %d", len(p), chunks)
	got := split(p, chunks)
	checkSplit(t, what, got, definedSplit(p, chunks))
	if got.Err != api.OK {
		t.Fatalf("%s: error %d", what, got.Err)
	}
	all := join(got.lists()...)
	if !bytes.HasPrefix(p, all) {
		t.Errorf("%s: the parts are not the beginning of the tape", what)
	}
	if behind := len(p) - len(all); behind < 0 || behind >= chunks {
		t.Errorf("%s: %d bytes lie behind the parts", what, behind)
	}
	if len(got.Parts.Chunks) != chunks {
		t.Errorf("%s: %d chunks", what, len(got.Parts.Chunks))
	}
	for j, c := range got.Parts.Chunks {
		if len(c) != len(got.Parts.Chunks[0]) {
			t.Errorf("%s: chunk %d has %d bytes, chunk 0 has %d", what, j, len(c), len(got.Parts.Chunks[0]))
		}
	}
}

// P9.2: every number of chunks with every length from the shortest on, till the 64 chunks' parts have three bytes each: so each place where a part's length changes.
func TestEverySplit(t *testing.T) {
	p := some(18+2*64*3+5, 22)
	for n := 18; n <= len(p); n++ {
		for chunks := 1; chunks <= 64; chunks++ {
			checkParts(t, p[:n], chunks)
		}
	}
}

// P9.2: where a byte more is a byte of the braid's part, and where it makes the chunks' parts longer.
func TestWhereLengthsChange(t *testing.T) {
	for chunks := 1; chunks <= 64; chunks++ {
		for n := 18; n < 18+2*64+10; n++ {
			now, more := split(some(n, 23), chunks).Parts, split(some(n+1, 23), chunks).Parts
			r := n - 18
			wantBraid, wantChunk := 0, 0
			if r%2 == 1 {
				wantBraid = 1
			} else if (r/2+1)%chunks == 0 {
				wantChunk = 1
			}
			braid, chunk := len(more.Braid)-len(now.Braid), len(more.Chunks[0])-len(now.Chunks[0])
			if braid != wantBraid || chunk != wantChunk {
				t.Errorf("%d to %d bytes, %d: Braid %d more, a chunk %d more; want %d, %d", n, n+1, chunks, braid, chunk, wantBraid, wantChunk)
			}
		}
	}
}

// P9.2: longer tapes, of any bytes.
func TestAnySplit(t *testing.T) {
	r := rand.New(rand.NewSource(92))
	for range 400 {
		p := make([]byte, 18+r.Intn(6000))
		r.Read(p)
		checkParts(t, p, 1+r.Intn(64))
	}
	for _, n := range []int{65535, 65536, 65537, 1 << 20} {
		p := some(n, 24)
		for _, chunks := range []int{1, 2, 3, 63, 64} {
			checkParts(t, p, chunks)
		}
	}
}

// P9.2: where the parts are cut hangs on the length and the chunks alone, not on what the bytes are.
func TestCutsHangOnTheLengthAlone(t *testing.T) {
	for _, n := range []int{18, 19, 31, 60, 145, 300} {
		for _, chunks := range []int{1, 2, 3, 64} {
			want := split(numbered(n), chunks)
			for _, p := range [][]byte{make([]byte, n), bytes.Repeat([]byte{255}, n), some(n, 25)} {
				got := split(p, chunks)
				checkSplit(t, "other bytes", got, definedSplit(p, chunks))
				for i, l := range got.lists() {
					if len(l) != len(want.lists()[i]) {
						t.Errorf("%d bytes, %d: part %d has %d bytes, and %d where the bytes are others", n, chunks, i, len(l), len(want.lists()[i]))
					}
				}
				checkSplit(t, "asked again", split(p, chunks), got)
			}
		}
	}
}

// P9.2: each byte lies in one part at most: changed, it shows there alone, and one that isn't read shows nowhere.
func TestEachByteIsOnePartsAlone(t *testing.T) {
	for _, k := range []struct{ n, chunks int }{{18, 1}, {19, 2}, {31, 3}, {60, 2}, {150, 64}, {211, 64}} {
		p := some(k.n, 26)
		before := split(p, k.chunks).clone()
		read := len(join(before.lists()...))
		for at := range p {
			p[at] ^= 0x5a
			changed := 0
			for i, l := range split(p, k.chunks).lists() {
				if !bytes.Equal(l, before.lists()[i]) {
					changed++
				}
			}
			want := 1
			if at >= read {
				want = 0
			}
			if changed != want {
				t.Errorf("%d bytes, %d: byte %d shows in %d parts; want %d", k.n, k.chunks, at, changed, want)
			}
			p[at] ^= 0x5a
		}
	}
}

// noChunks: numbers of chunks outside the range, those among them that fall into it where a number is cut to fewer bits.
var noChunks = []int{0, -1, -2, -63, -64, -65, 65, 66, 128, 255, 256, 257, 320, 1 << 16, 1<<16 + 1, 1 << 32, 1<<32 + 1, 1<<32 + 64,
	math.MaxInt32, math.MinInt32, math.MaxInt - 1, math.MaxInt, math.MinInt, math.MinInt + 1}

// P9.2: ErrArg for chunks outside 1 to 64, whatever the tape, and ahead of ErrTape; the ends of the range are taken.
func TestChunksOutsideTheRange(t *testing.T) {
	for _, n := range []int{0, 1, 17, 18, 19, 31, 1000} {
		for _, chunks := range noChunks {
			checkSplit(t, fmt.Sprintf("%d bytes, %d", n, chunks), split(some(n, 27), chunks), parted{Err: api.ErrArg})
		}
	}
	for _, chunks := range []int{1, 64} {
		checkParts(t, some(18, 27), chunks)
		checkParts(t, some(1000, 27), chunks)
	}
}

// P9.2: ErrTape for each tape shorter than the noise's part, with each number of chunks; one of just that length is taken.
func TestShortTapes(t *testing.T) {
	for chunks := 1; chunks <= 64; chunks++ {
		for n := range 18 {
			checkSplit(t, fmt.Sprintf("%d bytes, %d", n, chunks), split(some(n, 28), chunks), parted{Err: api.ErrTape})
		}
		checkSplit(t, fmt.Sprintf("18 bytes, %d", chunks), split(some(18, 28), chunks), parts(some(18, 28), nil, make([][]byte, chunks)...))
	}
}

// Rule 4: nil is the empty list; and room behind a short list makes it no longer.
func TestShortListsWithRoom(t *testing.T) {
	for _, p := range [][]byte{nil, {}, some(100, 29)[:0], some(100, 29)[:17], some(100, 29)[60:77]} {
		checkSplit(t, "a short list", split(p, 3), parted{Err: api.ErrTape})
		checkSplit(t, "a short list, no chunks", split(p, 0), parted{Err: api.ErrArg})
	}
	checkSplit(t, "18 bytes with room", split(some(100, 29)[:18], 1), parts(some(18, 29), nil, nil))
}

// Rule 3: beside an error no part is answered, not even an empty list of chunks' parts.
func TestNothingBesideAnError(t *testing.T) {
	for _, p := range [][]byte{nil, some(17, 30), some(18, 30), some(500, 30)} {
		for _, chunks := range append([]int{1, 64}, noChunks...) {
			if got := split(p, chunks); got.Err != api.OK && len(got.Parts.Noise)+len(got.Parts.Braid)+len(got.Parts.Chunks) != 0 {
				t.Errorf("%d bytes, %d: %v", len(p), chunks, got)
			}
		}
	}
}

// Rule 5: the parts are memory of their own: each of them written over and grown, room and all, shows neither in the tape nor in another part nor in another answer.
func TestPartsAreApart(t *testing.T) {
	for _, k := range []struct{ n, chunks int }{{18, 1}, {18, 64}, {19, 1}, {31, 3}, {60, 2}, {145, 64}, {400, 64}, {401, 7}} {
		what := fmt.Sprintf("%d bytes, %d", k.n, k.chunks)
		inside, all := withRoom(some(k.n, 31))
		before := bytes.Clone(all)
		first, second := split(inside, k.chunks), split(inside, k.chunks)
		want := first.clone()
		for i, l := range first.lists() {
			grown := append(l, some(50, 32)...)
			for at := range grown {
				grown[at] ^= 0xff
			}
			for at := range l[:cap(l)] {
				l[:cap(l)][at] = 0xee
			}
			for j, other := range first.lists() {
				if j > i && !bytes.Equal(other, want.lists()[j]) {
					t.Errorf("%s: part %d shows what is written on part %d", what, j, i)
				}
			}
		}
		checkSplit(t, what+": beside an answer that is written over", second, want)
		if !bytes.Equal(all, before) {
			t.Errorf("%s: the parts share memory with the tape", what)
		}
		clear(all)
		checkSplit(t, what+": beside a tape that is written over", second, want)
		clear(second.Parts.Chunks)
		checkSplit(t, what+": asked again", split(some(k.n, 31), k.chunks), want)
	}
}

// P9.2, P9.1: a part on a tape of its own is read to the part's end, and no further.
func TestPartsAsTapes(t *testing.T) {
	p := some(60, 33)
	got := split(p, 2)
	for i, l := range got.lists() {
		a := tape.New(l)
		checkTape(t, fmt.Sprint("part ", i), a, place{l, 0})
		if _, _, e := a.Take(len(l) + 1); e != api.ErrTape {
			t.Errorf("part %d: one byte more: error %d", i, e)
		}
	}
}

func ExampleSplit() {
	p := make([]byte, 31)
	for i := range p {
		p[i] = byte(i)
	}
	parts, e := tape.Split(p, 3)
	fmt.Println(len(parts.Noise), parts.Braid, parts.Chunks, int(e))
	// Output: 18 [18 19 20 21 22 23] [[24 25] [26 27] [28 29]] 0
}
