package noise_test

import (
	"bytes"
	"crypto/aes"
	"crypto/cipher"
	"fmt"
	"math"
	"math/bits"
	"math/rand"
	"slices"
	"testing"

	"churn/api"
	"churn/noise"
)

func join[T any](pieces ...[]T) []T { return slices.Concat(pieces...) }

// some: n bytes without a rule, other ones for another seed.
func some(n int, seed int64) []byte {
	p := make([]byte, n)
	rand.New(rand.NewSource(seed)).Read(p)
	return p
}

// counting: the bytes 0, 1, 2 and so on.
func counting(n int) []byte {
	p := make([]byte, n)
	for i := range p {
		p[i] = byte(i)
	}
	return p
}

// telling: a part that tells u, with the bytes behind.
func telling(u int, behind []byte) []byte {
	return join([]byte{byte(u / 256), byte(u % 256)}, behind)
}

// far: numbers that fit nowhere, those among them that would fit if they were cut to fewer bits or their sign left out.
var far = []int{-1, -2, -7, -16, -17, -256, -1000, -1001, -1 << 16, -1 << 31, -1 << 32, 1 - 1<<32, math.MinInt + 1, math.MinInt,
	1001, 1002, 1024, 1 << 16, 1<<16 + 1, 1 << 31, 1<<31 - 1, 1 << 32, 1<<32 + 1, 1<<32 + 16, 1 << 48, 1<<62 + 1, math.MaxInt - 1, math.MaxInt}

// A tabled is what Table answers.
type tabled struct {
	List []int
	Err  api.Errno
}

func (a tabled) same(b tabled) bool { return slices.Equal(a.List, b.List) && a.Err == b.Err }

func (a tabled) String() string { return fmt.Sprintf("%v, error %d", a.List, a.Err) }

func table(num, den, most int) tabled {
	l, e := noise.Table(num, den, most)
	return tabled{l, e}
}

// A counted is what Count answers.
type counted struct {
	N   int
	Err api.Errno
}

func count(part []byte, num, den, most int) counted {
	n, e := noise.Count(part, num, den, most)
	return counted{n, e}
}

// A made is what Cells answers.
type made struct {
	Cells [][]byte
	Err   api.Errno
}

func (a made) same(b made) bool {
	return slices.EqualFunc(a.Cells, b.Cells, bytes.Equal) && a.Err == b.Err
}

func (a made) String() string {
	return fmt.Sprintf("%d cells %.200x, error %d", len(a.Cells), a.Cells, a.Err)
}

func (a made) clone() made {
	out := made{Err: a.Err}
	for _, c := range a.Cells {
		out.Cells = append(out.Cells, bytes.Clone(c))
	}
	return out
}

func cells(part []byte, count, left int) made {
	l, e := noise.Cells(part, count, left)
	return made{l, e}
}

// atMost: whether a * b is at most c * d, however great the products are.
func atMost(a, b, c, d uint64) bool {
	high, low := bits.Mul64(a, b)
	mostHigh, mostLow := bits.Mul64(c, d)
	return high < mostHigh || (high == mostHigh && low <= mostLow)
}

// share: a * b / c rounded down, sought bit by bit without a division.
func share(a, b, c uint64) uint64 {
	q := uint64(0)
	for bit := uint64(1) << 33; bit > 0; bit >>= 1 {
		if atMost(q+bit, c, a, b) {
			q += bit
		}
	}
	return q
}

func sum(list []uint64) uint64 {
	s := uint64(0)
	for _, v := range list {
		s += v
	}
	return s
}

// weights: the chapter's, w0 to w(most).
func weights(num, den, most int) []uint64 {
	w := []uint64{4294967296}
	for range most {
		w = append(w, share(w[len(w)-1], uint64(num), uint64(den)))
	}
	return w
}

// tableOf: the chapter's table of any weights.
func tableOf(w []uint64) []int {
	var out []int
	for k := range w {
		out = append(out, int(share(65536, sum(w[:k+1]), sum(w))))
	}
	return out
}

func fit(num, den, most int) bool {
	return num >= 0 && num <= den && den >= 1 && den <= 1000 && most >= 0 && most <= 16
}

func definedTable(num, den, most int) tabled {
	if !fit(num, den, most) {
		return tabled{Err: api.ErrArg}
	}
	return tabled{List: tableOf(weights(num, den, most))}
}

// definedCount: how many numbers of the table u has reached: the first that it has not is the one sought, since the table rises.
func definedCount(part []byte, num, den, most int) counted {
	switch {
	case !fit(num, den, most):
		return counted{Err: api.ErrArg}
	case len(part) < 18:
		return counted{Err: api.ErrTape}
	}
	u, n := 256*int(part[0])+int(part[1]), 0
	for _, number := range definedTable(num, den, most).List {
		if number <= u {
			n++
		}
	}
	return counted{N: n}
}

// sizes: how many bytes a cell is made of, by how many hops it still has to go through.
var sizes = []int{48, 82, 116, 150, 184, 218, 252, 286}

// definedCells: the chapter's words over the library's AES and counter mode, written straight into the cells.
func definedCells(part []byte, count, left int) made {
	switch {
	case count < 0 || count > 16 || left < 0 || left > 7:
		return made{Err: api.ErrArg}
	case len(part) < 18:
		return made{Err: api.ErrTape}
	}
	b, err := aes.NewCipher(part[2:18])
	if err != nil {
		panic(err)
	}
	stream := cipher.NewCTR(b, make([]byte, 16))
	var out made
	for range count {
		c := make([]byte, 320)
		room := c[:sizes[left]]
		if left == 0 {
			room = c[1:49]
		}
		stream.XORKeyStream(room, room)
		out.Cells = append(out.Cells, c)
	}
	return out
}

func checkTable(t *testing.T, num, den, most int) tabled {
	t.Helper()
	got := table(num, den, most)
	if want := definedTable(num, den, most); !got.same(want) {
		t.Errorf("Table(%d, %d, %d) = %v; want %v", num, den, most, got, want)
	}
	return got
}

func checkCount(t *testing.T, part []byte, num, den, most int) {
	t.Helper()
	if got, want := count(part, num, den, most), definedCount(part, num, den, most); got != want {
		t.Errorf("Count(%.40x, %d, %d, %d) = %v; want %v", part, num, den, most, got, want)
	}
}

func checkCells(t *testing.T, part []byte, count, left int) made {
	t.Helper()
	got := cells(part, count, left)
	if want := definedCells(part, count, left); !got.same(want) {
		t.Errorf("Cells(%.40x, %d, %d) = %v; want %v", part, count, left, got, want)
	}
	return got
}
