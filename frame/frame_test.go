package frame_test

import (
	"bytes"
	"encoding/binary"
	"fmt"
	"math"
	"math/rand"
	"slices"
	"sync"
	"testing"

	"churn/api"
	"churn/frame"
)

// example: the chapter's 28 bytes, as it writes them.
func example() []byte {
	return []byte{
		0x43, 0x48, 0x52, 0x4E, 0x01, 0x02, 0x00, 0x00,
		0x00, 0x00, 0x00, 0x00, 0x00, 0x00, 0x00, 0x07,
		0x00, 0x00, 0x00, 0x00, 0x00, 0x00, 0x00, 0x01,
		0x1A, 0xC4, 0x01, 0x37,
	}
}

// checkPack: does Pack answer this error, or, if it is OK, the chapter's bytes, and does Read give the batch back?
func checkPack(t *testing.T, what string, b api.Batch, want api.Errno) {
	t.Helper()
	p, e := frame.Pack(b)
	if e != want {
		t.Errorf("%s: Pack tells %d; want %d", what, e, want)
		return
	}
	if e != api.OK {
		if len(p) != 0 {
			t.Errorf("%s: %d bytes beside error %d", what, len(p), e)
		}
		return
	}
	if !bytes.Equal(p, bytesOf(b)) {
		t.Errorf("%s: Pack answers other bytes than the chapter's", what)
	}
	back, at, e := frame.Read(p)
	if e != api.OK || at != 0 || back.Header != b.Header || !sameCells(back.Cells, b.Cells) {
		t.Errorf("%s: Read of what Pack answers: %v with %d cells, %d at %d", what, back.Header, len(back.Cells), e, at)
	}
}

// P6.1: the chapter's examples.
func TestExamples(t *testing.T) {
	raw := example()
	p, e := frame.Pack(batch(7, 1, 2, nil))
	if e != api.OK || !bytes.Equal(p, raw) {
		t.Errorf("Pack: %x, error %d", p, e)
	}
	b, at, e := frame.Read(raw)
	if e != api.OK || at != 0 || b.Header != (api.Header{Round: 7, Epoch: 1, Left: 2}) || len(b.Cells) != 0 {
		t.Errorf("Read: %v, %d, error %d", b, at, e)
	}
	refuses(t, "without their last byte", raw[:27], 27, api.ErrShort)
	for _, last := range []byte{0, 1, 0x43, 0xff} {
		refuses(t, "with a byte behind them", append(example(), last), 28, api.ErrMore)
	}
	refuses(t, "byte 5 turned to 9", with(raw, 5, 9), 5, api.ErrHeader)
	refuses(t, "byte 5 turned to 3", with(raw, 5, 3), 24, api.ErrFoot)
	refuses(t, "byte 7 turned to 1", with(raw, 7, 1), 24, api.ErrCell)
	refuses(t, "the one byte 00", []byte{0}, 1, api.ErrShort)
	refuses(t, "43 48 52 00", []byte{0x43, 0x48, 0x52, 0}, 0, api.ErrMagic)
}

// P6.1: Pack's headers, about each end of each number.
func TestPackOfHeaders(t *testing.T) {
	for left, want := range map[int]api.Errno{
		math.MinInt: api.ErrHeader, -256: api.ErrHeader, -1: api.ErrHeader, 0: 0, 1: 0, 7: 0, 8: 0, 9: api.ErrHeader, 256: api.ErrHeader, 258: api.ErrHeader, 1 << 32: api.ErrHeader, math.MaxInt: api.ErrHeader,
	} {
		checkPack(t, fmt.Sprint("Left ", left), batch(7, 1, left, cells(1)), want)
	}
	for round, want := range map[int64]api.Errno{
		math.MinInt64: api.ErrHeader, -1: api.ErrHeader, 0: 0, 1: 0, 255: 0, 256: 0, 0x0102030405060708: 0, 1<<62 - 2: 0, 1<<62 - 1: 0, 1 << 62: api.ErrHeader, 1<<62 + 1: api.ErrHeader, math.MaxInt64: api.ErrHeader,
	} {
		checkPack(t, fmt.Sprint("Round ", round), batch(round, 1, 2, cells(1)), want)
	}
	for epoch, want := range map[int64]api.Errno{
		math.MinInt64: api.ErrHeader, -1: api.ErrHeader, 0: 0, 1: 0, 255: 0, 256: 0, 0x0102030405060708: 0, 1<<62 - 1: 0, 1 << 62: 0, 1<<62 + 1: api.ErrHeader, math.MaxInt64: api.ErrHeader,
	} {
		checkPack(t, fmt.Sprint("Epoch ", epoch), batch(7, epoch, 2, cells(1)), want)
	}
	checkPack(t, "all at their ends", batch(1<<62-1, 1<<62, 8, nil), api.OK)
	checkPack(t, "all at 0", api.Batch{}, api.OK)
}

// P6.1: Pack of as many cells as a batch has and of more.
func TestPackOfCounts(t *testing.T) {
	for n, want := range map[int]api.Errno{0: 0, 1: 0, 2: 0, 255: 0, 256: 0, 257: api.ErrCount, 258: api.ErrCount, 512: api.ErrCount, 65536: api.ErrCount, 65537: api.ErrCount} {
		list := slices.Repeat(cells(min(n, 256)), max(1, n/256+1))[:n]
		checkPack(t, fmt.Sprint(n, " cells"), batch(7, 1, 2, list), want)
	}
}

// P6.1: Pack of a cell that has another length, at each place of a batch.
func TestPackOfOtherCells(t *testing.T) {
	for _, n := range []int{0, 1, 319, 321, 576, 640, 65536 + 320} {
		for count := 1; count < 5; count++ {
			for at := range count {
				list := cells(count)
				list[at] = some(n, at)
				checkPack(t, fmt.Sprintf("cell %d of %d has %d bytes", at, count, n), batch(7, 1, 2, list), api.ErrCell)
			}
		}
		full := cells(256)
		full[255] = some(n, 1)
		checkPack(t, "the last cell of a full batch", batch(7, 1, 2, full), api.ErrCell)
	}
	checkPack(t, "a nil cell", batch(7, 1, 2, [][]byte{nil}), api.ErrCell)
	checkPack(t, "lengths that are right in sum", batch(7, 1, 2, [][]byte{some(319, 1), some(321, 1)}), api.ErrCell)
}

// P6.1 and rule 2: Pack's errors come in the order of the chapter's list.
func TestOrderOfPacksErrors(t *testing.T) {
	for _, header := range []api.Header{{Left: 9}, {Left: -1}, {Round: -1}, {Round: 1 << 62}, {Epoch: -1}, {Epoch: 1<<62 + 1}} {
		for _, list := range [][][]byte{nil, cells(1), {nil}, cells(257), append(cells(256), nil)} {
			checkPack(t, fmt.Sprint(header, " and ", len(list), " cells"), api.Batch{Header: header, Cells: list}, api.ErrHeader)
		}
	}
	for _, list := range [][][]byte{append(cells(256), nil), append([][]byte{nil}, cells(256)...), make([][]byte, 257)} {
		checkPack(t, "too many cells, wrong ones among them", batch(7, 1, 2, list), api.ErrCount)
	}
}

// P6.1: the foot goes round at its modulus, in both of its numbers.
func TestFootOfGreatSums(t *testing.T) {
	for n := range 40 {
		list := slices.Repeat([][]byte{bytes.Repeat([]byte{0xff}, 320)}, n)
		checkPack(t, fmt.Sprint(n, " cells of ff"), batch(1<<62-1, 1<<62-1, 8, list), api.OK)
	}
	checkPack(t, "a full batch of ff", batch(7, 1, 2, slices.Repeat([][]byte{bytes.Repeat([]byte{0xff}, 320)}, 256)), api.OK)
	for _, a := range []int{0, 1, 14, 65519, 65520} {
		checkPack(t, fmt.Sprint("the foot's A is ", a), withA(a), api.OK)
	}
	for _, b := range [][2]int{{0, 2}, {3, 14}, {65518, 65520}} {
		checkPack(t, fmt.Sprint("the foot's B is about ", b), withB(t, b[0], b[1]), api.OK)
	}
}

// withA: a batch whose foot has this number A.
func withA(a int) api.Batch {
	head := 0
	for _, x := range bytesOf(batch(7, 1, 2, make([][]byte, 2)))[:24] {
		head += int(x)
	}
	lengths := 2 * (1 + 64)
	rest := a - 1 - head - lengths + 2*65521
	both := make([]byte, 640)
	for i := range both {
		both[i] = byte(min(rest, 255))
		rest -= int(both[i])
	}
	return batch(7, 1, 2, [][]byte{both[:320], both[320:]})
}

// withB: a batch whose foot has a number B from low to high.
func withB(t *testing.T, low, high int) api.Batch {
	r := rand.New(rand.NewSource(62))
	for range 1 << 20 {
		c := make([]byte, 320)
		r.Read(c)
		b := batch(7, 1, 2, [][]byte{c})
		if raw := bytesOf(b); low <= footB(raw) && footB(raw) <= high {
			return b
		}
	}
	t.Fatal("no batch with such a foot was found")
	return api.Batch{}
}

func footB(raw []byte) int { return int(binary.BigEndian.Uint16(raw[len(raw)-4:])) }
func footA(raw []byte) int { return int(binary.BigEndian.Uint16(raw[len(raw)-2:])) }

// P6.1: a number that is the foot's own modulo 65521, but not the same, is no foot.
func TestFootIsBelowItsModulus(t *testing.T) {
	for a := range 15 {
		raw := bytesOf(withA(a))
		if footA(raw) != a {
			t.Fatalf("the foot's A is %d, not %d", footA(raw), a)
		}
		past := binary.BigEndian.AppendUint16(nil, uint16(a+65521))
		refuses(t, "an A past the modulus", with(raw, len(raw)-2, past...), len(raw)-4, api.ErrFoot)
	}
	raw := bytesOf(withB(t, 0, 14))
	past := binary.BigEndian.AppendUint16(nil, uint16(footB(raw)+65521))
	refuses(t, "a B past the modulus", with(raw, len(raw)-4, past...), len(raw)-4, api.ErrFoot)
}

// P6.1: Read of each sample, and of each sample cut off at each place: where no whole field is wrong, ErrShort and the number of bytes.
func TestReadOfSamples(t *testing.T) {
	for _, s := range samples() {
		for n := range len(s.Raw) + 1 {
			checkRead(t, fmt.Sprintf("%s, the first %d bytes", s.Name, n), s.Raw[:n])
		}
	}
	whole := bytesOf(batch(7, 1, 2, cells(2)))
	for n := range whole {
		refuses(t, "a batch cut off", whole[:n], n, api.ErrShort)
	}
}

// P6.1: each fault with its place, told as soon as its field is whole and no earlier, whatever stands behind it.
func TestEachFault(t *testing.T) {
	whole := bytesOf(batch(7, 1, 2, cells(2)))
	for _, c := range []struct {
		what  string
		at    int
		other []byte
		place int
		err   api.Errno
	}{
		{"the first letter", 0, []byte("DHRN"), 0, api.ErrMagic},
		{"the last letter", 0, []byte("CHRM"), 0, api.ErrMagic},
		{"small letters", 0, []byte("chrn"), 0, api.ErrMagic},
		{"the letters backwards", 0, []byte("NRHC"), 0, api.ErrMagic},
		{"version 0", 4, []byte{0}, 4, api.ErrVersion},
		{"version 2", 4, []byte{2}, 4, api.ErrVersion},
		{"Left 9", 5, []byte{9}, 5, api.ErrHeader},
		{"Left 255", 5, []byte{255}, 5, api.ErrHeader},
		{"257 cells", 6, []byte{1, 1}, 6, api.ErrCount},
		{"512 cells", 6, []byte{2, 0}, 6, api.ErrCount},
		{"65535 cells", 6, []byte{255, 255}, 6, api.ErrCount},
		{"Round 2^62", 8, []byte{0x40, 0, 0, 0, 0, 0, 0, 0}, 8, api.ErrHeader},
		{"Round 2^62 + 7", 8, []byte{0x40, 0, 0, 0, 0, 0, 0, 7}, 8, api.ErrHeader},
		{"Round with the highest bit", 8, []byte{0x80, 0, 0, 0, 0, 0, 0, 0}, 8, api.ErrHeader},
		{"the greatest Round", 8, bytes.Repeat([]byte{0xff}, 8), 8, api.ErrHeader},
		{"Epoch 2^62 + 1", 16, []byte{0x40, 0, 0, 0, 0, 0, 0, 1}, 16, api.ErrHeader},
		{"Epoch with the highest bit", 16, []byte{0x80, 0, 0, 0, 0, 0, 0, 1}, 16, api.ErrHeader},
		{"the greatest Epoch", 16, bytes.Repeat([]byte{0xff}, 8), 16, api.ErrHeader},
		{"the first length 319", 24, []byte{1, 63}, 24, api.ErrCell},
		{"the first length 64", 24, []byte{0, 64}, 24, api.ErrCell},
		{"the second length 321", 346, []byte{1, 65}, 346, api.ErrCell},
		{"the second length 0", 346, []byte{0, 0}, 346, api.ErrCell},
	} {
		end := c.at + len(c.other)
		for _, raw := range [][]byte{with(whole, c.at, c.other...), resealed(whole, c.at, c.other...)} {
			for n := range len(raw) + 1 {
				if n < end {
					refuses(t, c.what+", not whole yet", raw[:n], n, api.ErrShort)
				} else {
					refuses(t, c.what, raw[:n], c.place, c.err)
				}
			}
		}
	}
}

// P6.1: what is exactly at its end is taken.
func TestReadTakesTheEnds(t *testing.T) {
	whole := bytesOf(batch(7, 1, 2, cells(2)))
	for what, raw := range map[string][]byte{
		"Left 0":         resealed(whole, 5, 0),
		"Left 8":         resealed(whole, 5, 8),
		"Round 0":        resealed(whole, 8, 0, 0, 0, 0, 0, 0, 0, 0),
		"Round 2^62 - 1": resealed(whole, 8, 0x3f, 255, 255, 255, 255, 255, 255, 255),
		"Epoch 0":        resealed(whole, 16, 0, 0, 0, 0, 0, 0, 0, 0),
		"Epoch 2^62 - 1": resealed(whole, 16, 0x3f, 255, 255, 255, 255, 255, 255, 255),
		"Epoch 2^62":     resealed(whole, 16, 0x40, 0, 0, 0, 0, 0, 0, 0),
	} {
		checkRead(t, what, raw)
		if _, _, e := frame.Read(raw); e != api.OK {
			t.Errorf("%s: error %d", what, e)
		}
	}
}

// P6.1: every byte that can stand as version or Left, every number that can stand as count or length.
func TestEverySmallNumber(t *testing.T) {
	for x := range 256 {
		checkRead(t, fmt.Sprint("version ", x), resealed(example(), 4, byte(x)))
		checkRead(t, fmt.Sprint("Left ", x), resealed(example(), 5, byte(x)))
	}
	one := bytesOf(batch(7, 1, 2, cells(1)))
	for x := range 65536 {
		number := binary.BigEndian.AppendUint16(nil, uint16(x))
		checkRead(t, fmt.Sprint("the count ", x), with(example(), 6, number...))
		checkRead(t, fmt.Sprint("the length ", x), resealed(one, 24, number...))
	}
}

// P6.1: batches of every number of cells, a cell more and a cell less than the count tells, and a count past MaxBatch with just as many cells.
func TestReadOfCounts(t *testing.T) {
	for _, n := range []int{0, 1, 2, 3, 100, 254, 255, 256} {
		list := cells(n)
		raw := bytesOf(batch(7, 1, 2, list))
		checkRead(t, fmt.Sprint(n, " cells"), raw)
		b, at, e := frame.Read(raw)
		if e != api.OK || at != 0 || !sameCells(b.Cells, list) {
			t.Errorf("%d cells: %d of them, %d at %d", n, len(b.Cells), e, at)
		}
		refuses(t, "a byte behind", append(bytes.Clone(raw), 0x43), 28+322*n, api.ErrMore)
		refuses(t, "a batch behind", slices.Concat(raw, raw), 28+322*n, api.ErrMore)
		refuses(t, "no foot", raw[:24+322*n], 24+322*n, api.ErrShort)
		if n > 0 {
			refuses(t, "told one less", resealed(raw, 6, byte((n-1)>>8), byte(n-1)), 24+322*(n-1), api.ErrFoot)
		}
	}
	many := bytesOf(batch(7, 1, 2, slices.Repeat(cells(1), 257)))
	refuses(t, "257 cells", many, 6, api.ErrCount)
}

// A wound is a fault that can be put into a batch of two cells.
type wound struct {
	what  string
	place int
	err   api.Errno
	deal  func(p []byte) []byte
}

func wounds() []wound {
	put := func(at int, other ...byte) func([]byte) []byte {
		return func(p []byte) []byte { return with(p, at, other...) }
	}
	return []wound{
		{"letters", 0, api.ErrMagic, put(2, 'S')},
		{"version", 4, api.ErrVersion, put(4, 9)},
		{"Left", 5, api.ErrHeader, put(5, 77)},
		{"count", 6, api.ErrCount, put(6, 3)},
		{"Round", 8, api.ErrHeader, put(8, 0xC0)},
		{"Epoch", 16, api.ErrHeader, put(16, 0x41)},
		{"first length", 24, api.ErrCell, put(25, 0x41)},
		{"second length", 346, api.ErrCell, put(346, 2)},
		{"foot", 668, api.ErrFoot, func(p []byte) []byte { return with(p, 670, ^p[670]) }},
		{"more", 672, api.ErrMore, func(p []byte) []byte { return append(bytes.Clone(p), 0) }},
	}
}

// P6.1: where bytes hold more than one fault, the first one is told: each set of faults, the foot being one of them wherever bytes ahead of it are turned.
func TestOrderOfReadsErrors(t *testing.T) {
	all := wounds()
	whole := bytesOf(batch(7, 1, 2, cells(2)))
	for set := 1; set < 1<<len(all); set++ {
		p, first := whole, -1
		for i, w := range all {
			if set>>i&1 == 1 {
				p = w.deal(p)
				if first < 0 {
					first = i
				}
			}
		}
		refuses(t, fmt.Sprintf("the faults %b", set), p, all[first].place, all[first].err)
	}
}

// P6.1: any bytes, held against the chapter's words: turned batches, batches cut short, and bytes that look like a header.
func TestAnyBytes(t *testing.T) {
	r := rand.New(rand.NewSource(61))
	read := 0
	for range 20000 {
		b := batch(r.Int63n(1<<62), r.Int63n(1<<62), r.Intn(9), cells(r.Intn(4)))
		raw := bytesOf(b)
		for range r.Intn(3) {
			raw[r.Intn(len(raw))] = byte(r.Intn(256))
		}
		if r.Intn(2) == 0 {
			raw = sealed(raw[:len(raw)-4])
		}
		if r.Intn(4) == 0 {
			raw = raw[:r.Intn(len(raw)+1)]
		}
		checkRead(t, "any bytes", raw)
		if _, _, e := frame.Read(raw); e == api.OK {
			read++
		}
	}
	if read < 1000 {
		t.Errorf("only %d of them were batches", read)
	}
}

// P6.4: each byte of a small batch, turned into each other one.
func TestEachByteTurned(t *testing.T) {
	for n := range 2 {
		raw := bytesOf(batch(7, 1, 2, cells(n)))
		for at := range raw {
			for by := 1; by < 256; by++ {
				checkTurned(t, raw, at, byte(by))
			}
		}
	}
}

// P6.4: greater batches, of bytes of all kinds, up to a full one.
func TestByteTurnedInGreaterBatches(t *testing.T) {
	for _, list := range [][][]byte{
		cells(2), cells(3),
		slices.Repeat([][]byte{make([]byte, 320)}, 3),
		slices.Repeat([][]byte{bytes.Repeat([]byte{0xff}, 320)}, 3),
		{bytes.Repeat([]byte{1, 64}, 160), example28(), bytes.Repeat([]byte{1, 64}, 160)},
	} {
		raw := bytesOf(batch(7, 1, 2, list))
		for at := range raw {
			for bit := range 8 {
				checkTurned(t, raw, at, 1<<bit)
			}
		}
	}
	full := bytesOf(batch(1<<62-1, 1<<62, 8, cells(256)))
	for at := 0; at < len(full); at += 211 {
		checkTurned(t, full, at, byte(at%255+1))
	}
}

// example28: a cell that holds the bytes of a batch.
func example28() []byte { return with(make([]byte, 320), 0, example()...) }

func checkTurned(t *testing.T, raw []byte, at int, by byte) {
	t.Helper()
	old := raw[at]
	raw[at] ^= by
	b, _, e := frame.Read(raw)
	if e == api.OK || b.Header != (api.Header{}) || len(b.Cells) != 0 {
		t.Errorf("byte %d of %d turned from %x to %x: error %d", at, len(raw), old, raw[at], e)
	}
	raw[at] = old
}

// withRoom: p in the midst of other bytes, which are its spare room too; and all of them.
func withRoom(p []byte) (inside, all []byte) {
	all = slices.Concat(some(20, 77), p, some(400, 78))
	return all[20 : 20+len(p)], all
}

// withRooms: a copy of a batch whose lists all have spare room; and the bytes and the list that they lie in.
func withRooms(b api.Batch) (api.Batch, [][]byte, [][]byte) {
	var list, alls [][]byte
	for _, c := range b.Cells {
		inside, all := withRoom(c)
		list, alls = append(list, inside), append(alls, all)
	}
	roomy := append(list, some(320, 79), nil)
	return api.Batch{Header: b.Header, Cells: roomy[:len(list)]}, alls, roomy
}

func cloned(list [][]byte) [][]byte {
	var other [][]byte
	for _, p := range list {
		other = append(other, bytes.Clone(p))
	}
	return other
}

// Rule 5 of Pack: the batch stays as it is, spare room included, and its bytes are memory of their own.
func TestMemoryOfPack(t *testing.T) {
	other := cells(3)
	other[2] = some(319, 1)
	for _, b := range []api.Batch{batch(7, 1, 2, nil), batch(7, 1, 2, cells(3)), batch(7, 1, 9, cells(3)), batch(7, 1, 2, other), batch(7, 1, 2, cells(257))} {
		given, alls, roomy := withRooms(b)
		before, listed := cloned(alls), cloned(roomy)
		first, e := frame.Pack(given)
		second, _ := frame.Pack(given)
		want := bytes.Clone(second)
		if plain, e2 := frame.Pack(b); e != e2 || !bytes.Equal(first, plain) {
			t.Errorf("spare room changes what Pack answers: error %d, not %d", e, e2)
		}
		clear(first[:cap(first)])
		if !bytes.Equal(second, want) || !sameCells(alls, before) || !sameCells(roomy, listed) {
			t.Error("the bytes share memory with the batch or with another answer, or the batch has changed")
		}
		for _, all := range alls {
			clear(all)
		}
		if !bytes.Equal(second, want) {
			t.Error("the bytes hang on the batch")
		}
	}
}

// Rule 5 of Read: the bytes stay as they are, and each cell, and the list of cells, is memory of its own.
func TestMemoryOfRead(t *testing.T) {
	for _, s := range samples() {
		inside, all := withRoom(s.Raw)
		before := bytes.Clone(all)
		first, _, e := frame.Read(inside)
		second, _, _ := frame.Read(inside)
		want := cloned(second.Cells)
		for i, c := range first.Cells {
			clear(c[:cap(c)])
			if !sameCells(first.Cells[i+1:], want[i+1:]) {
				t.Errorf("%s: cell %d shares memory with another one", s.Name, i)
			}
		}
		clear(first.Cells[:cap(first.Cells)])
		if !bytes.Equal(all, before) || !sameCells(second.Cells, want) {
			t.Errorf("%s: the cells share memory with the bytes or with another answer", s.Name)
		}
		clear(all)
		if !sameCells(second.Cells, want) {
			t.Errorf("%s: the cells hang on the bytes", s.Name)
		}
		if _, _, again := frame.Read(s.Raw); again != e {
			t.Errorf("%s: error %d, then %d", s.Name, e, again)
		}
	}
}

// Rule 6: many calls at one time, over the same lists, answer as one alone does.
func TestManyAtOneTime(t *testing.T) {
	var all sync.WaitGroup
	b := batch(7, 1, 2, cells(5))
	for range 8 {
		all.Go(func() { checkPack(t, "at one time", b, api.OK) })
	}
	for _, s := range samples() {
		for range 4 {
			all.Go(func() { checkRead(t, s.Name, s.Raw) })
		}
	}
	all.Wait()
}

func ExampleRead() {
	raw, e := frame.Pack(api.Batch{Header: api.Header{Round: 7, Epoch: 1, Left: 2}})
	fmt.Printf("%x, error %d\n", raw, e)
	b, at, e := frame.Read(raw)
	fmt.Printf("%+v, %d cells, place %d, error %d\n", b.Header, len(b.Cells), at, e)
	raw[5] = 3
	_, at, e = frame.Read(raw)
	fmt.Printf("place %d, error %d\n", at, e)
	// Output:
	// 4348524e01020000000000000000000700000000000000011ac40137, error 0
	// {Round:7 Epoch:1 Left:2}, 0 cells, place 0, error 0
	// place 24, error 65
}
