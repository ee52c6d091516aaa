package noise_test

import (
	"bytes"
	"fmt"
	"slices"
	"sync"
	"testing"

	"churn/api"
	"churn/noise"
	"churn/tape"
)

// P15.1, P15.2: the chapter's examples.
func TestExamples(t *testing.T) {
	refused := tabled{Err: api.ErrArg}
	for _, c := range []struct {
		what      string
		got, want tabled
	}{
		{"Table(1, 2, 3)", table(1, 2, 3), tabled{List: []int{34952, 52428, 61166, 65536}}},
		{"Table(2, 3, 2)", table(2, 3, 2), tabled{List: []int{31043, 51738, 65536}}},
		{"Table(0, 1, 2)", table(0, 1, 2), tabled{List: []int{65536, 65536, 65536}}},
		{"Table(1, 1, 3)", table(1, 1, 3), tabled{List: []int{16384, 32768, 49152, 65536}}},
		{"Table(2, 1, 1)", table(2, 1, 1), refused},
		{"Table(1, 1001, 1)", table(1, 1001, 1), refused},
		{"Table(0, 0, 0)", table(0, 0, 0), refused},
		{"Table(0, 1, 17)", table(0, 1, 17), refused},
	} {
		if !c.got.same(c.want) {
			t.Errorf("%s = %v; want %v", c.what, c.got, c.want)
		}
	}
	behind := some(16, 1560)
	for _, c := range []struct {
		part []byte
		want counted
	}{
		{join([]byte{0x88, 0x88}, behind), counted{N: 1}},
		{join([]byte{0x88, 0x87}, behind), counted{N: 0}},
		{make([]byte, 17), counted{Err: api.ErrTape}},
	} {
		if got := count(c.part, 1, 2, 3); got != c.want {
			t.Errorf("Count(%x, 1, 2, 3) = %v; want %v", c.part, got, c.want)
		}
	}
	if got := cells(some(18, 1561), 0, 3); !got.same(made{}) {
		t.Errorf("Cells of 18 bytes, 0, 3 = %v", got)
	}
}

// P15.1: DOC.md's fourth example of the whole: a tape of 18 noughts tells no noise, whatever the ratio.
func TestNoughtsTellNoNoise(t *testing.T) {
	for den := 1; den <= 1000; den += 37 {
		for num := 0; num <= den; num += 5 {
			for most := range 17 {
				if got := count(make([]byte, 18), num, den, most); got != (counted{}) {
					t.Errorf("Count(noughts, %d, %d, %d) = %v", num, den, most, got)
				}
			}
		}
	}
}

// P15.1, P15.2: the errors' numbers, as the document tells them.
func TestNumbersOfErrors(t *testing.T) {
	short, part := some(17, 1562), some(18, 1563)
	for _, c := range []struct {
		what string
		got  api.Errno
		want int
	}{
		{"Table", table(1, 2, 3).Err, 0}, {"Table of num 2, den 1", table(2, 1, 1).Err, 2}, {"Table of den 0", table(0, 0, 1).Err, 2}, {"Table of most 17", table(1, 2, 17).Err, 2},
		{"Count", count(part, 1, 2, 3).Err, 0}, {"Count of 17 bytes", count(short, 1, 2, 3).Err, 3}, {"Count of most 17", count(part, 1, 2, 17).Err, 2}, {"Count of both", count(short, 1, 2, 17).Err, 2},
		{"Cells", cells(part, 1, 1).Err, 0}, {"Cells of 17 bytes", cells(short, 1, 1).Err, 3}, {"17 Cells", cells(part, 17, 1).Err, 2}, {"Cells with 8 hops left", cells(part, 1, 8).Err, 2}, {"Cells of both", cells(short, 1, 8).Err, 2},
	} {
		if int(c.got) != c.want {
			t.Errorf("%s: error %d; want %d", c.what, c.got, c.want)
		}
	}
}

// P6's part of this layer: the noise's part of a round's tape is enough by itself, and tells the same as the whole tape.
func TestPartOfARoundsTape(t *testing.T) {
	for seed := range int64(50) {
		whole := some(18+int(seed)*9, 1570+seed)
		parts, e := tape.Split(whole, 1+int(seed))
		if e != api.OK {
			t.Fatal(e)
		}
		n := count(parts.Noise, 9, 10, 16)
		if n != count(whole, 9, 10, 16) || n.Err != api.OK {
			t.Errorf("Count of a part: %v", n)
		}
		if got := checkCells(t, parts.Noise, n.N, int(seed%8)); !got.same(cells(whole, n.N, int(seed%8))) {
			t.Errorf("Cells of a part: %v", got)
		}
	}
}

// A given is what one call of Cells is handed; its part goes to Count too.
type given struct {
	part        []byte
	count, left int
}

// givens: good arguments and bad ones.
func givens() []given {
	return []given{
		{nil, 0, 0}, {some(17, 1580), 3, 2}, {some(18, 1581), 0, 0}, {some(18, 1582), 1, 0}, {some(18, 1583), 16, 0}, {some(18, 1584), 1, 1}, {some(18, 1585), 2, 1},
		{some(19, 1586), 16, 7}, {some(64, 1587), 5, 4}, {some(500, 1588), 16, 3}, {some(18, 1589), 17, 3}, {some(18, 1590), 3, 8}, {some(18, 1591), -1, 0}, {some(18, 1592), 0, 7},
	}
}

// Rule 5: a part stays as it is, and what lies ahead of it and in its spare room too.
func TestPartsStay(t *testing.T) {
	for _, g := range givens() {
		around := join(some(20, 1593), g.part, some(400, 1594))
		before := bytes.Clone(around)
		part := around[20 : 20+len(g.part)]
		count(part, 9, 10, 16)
		count(part, 9, 10, 17)
		cells(part, g.count, g.left)
		if !bytes.Equal(around, before) {
			t.Errorf("%d bytes, %d, %d: the part has become %x", len(g.part), g.count, g.left, around)
		}
	}
}

// Rule 5: an answer is not changed by what becomes of the part, nor does the next one remember what it was.
func TestPartsAreNotKept(t *testing.T) {
	for _, g := range givens() {
		part := bytes.Clone(g.part)
		got, want := cells(part, g.count, g.left), definedCells(g.part, g.count, g.left)
		for i := range part {
			part[i] ^= 0xa5
		}
		if !got.same(want) {
			t.Errorf("%d bytes, %d, %d: the cells have become %v; want %v", len(g.part), g.count, g.left, got, want)
		}
		checkCells(t, part, g.count, g.left)
		checkCount(t, part, 9, 10, 16)
	}
}

// scribbled: writes over a list, room and all, and over what it grows to.
func scribbled[T any](list []T, v T) {
	grown := append(list, v, v, v)
	for _, l := range [][]T{list[:cap(list)], grown} {
		for i := range l {
			l[i] = v
		}
	}
}

// Rule 5: each cell is memory of its own: written over and grown, it shows neither in another cell nor in the part nor in another answer.
func TestCellsAreApart(t *testing.T) {
	for _, g := range givens() {
		around := join(some(20, 1595), g.part, some(400, 1596))
		before := bytes.Clone(around)
		part := around[20 : 20+len(g.part)]
		first, second := cells(part, g.count, g.left), cells(part, g.count, g.left)
		want := first.clone()
		for i, c := range first.Cells {
			scribbled(c, 0xee)
			if i+1 < len(first.Cells) && !bytes.Equal(first.Cells[i+1], want.Cells[i+1]) {
				t.Errorf("cell %d shows what is written on cell %d", i+1, i)
			}
		}
		if rest := cells(part, g.count, g.left); !rest.same(want) || !second.same(want) {
			t.Errorf("%d bytes, %d, %d: %v and %v beside cells that are written over; want %v", len(g.part), g.count, g.left, second, rest, want)
		}
		scribbled(first.Cells, nil)
		if !second.same(want) {
			t.Errorf("%d bytes, %d, %d: %v beside a list that is written over; want %v", len(g.part), g.count, g.left, second, want)
		}
		if !bytes.Equal(around, before) {
			t.Errorf("%d bytes, %d, %d: the cells share memory with the part", len(g.part), g.count, g.left)
		}
	}
}

// Rule 5: the cells ahead of one that is written over, from the last to the first, don't show it either.
func TestCellsAheadAreApart(t *testing.T) {
	for left := range 8 {
		got := cells(some(18, 1597), 16, left)
		want := got.clone()
		for i := len(got.Cells) - 1; i >= 0; i-- {
			scribbled(got.Cells[i], 0x77)
			if !slices.EqualFunc(got.Cells[:i], want.Cells[:i], bytes.Equal) {
				t.Errorf("left %d: a cell shows what is written on cell %d", left, i)
			}
		}
	}
}

// Rule 5: each table is memory of its own, and Count goes by none that was handed out.
func TestTablesAreApart(t *testing.T) {
	part := some(18, 1598)
	for _, a := range ratios() {
		first, second := table(a.num, a.den, a.most), table(a.num, a.den, a.most)
		want := tabled{List: slices.Clone(first.List)}
		scribbled(first.List, -1)
		if third := table(a.num, a.den, a.most); !second.same(want) || !third.same(want) {
			t.Errorf("%v: %v and %v beside a table that is written over; want %v", a, second, third, want)
		}
		checkCount(t, part, a.num, a.den, a.most)
	}
}

// Rule 6: what is answered hangs on no call ahead of it; and many calls at one time, of the same part too, answer what each would alone.
func TestManyAtOneTime(t *testing.T) {
	list, tables := givens(), ratios()
	var group sync.WaitGroup
	for caller := range 16 {
		group.Add(1)
		go func() {
			defer group.Done()
			for i := range 3 * len(list) {
				g, a := list[(caller+i)%len(list)], tables[(caller*7+i)%len(tables)]
				checkCells(t, g.part, g.count, g.left)
				checkTable(t, a.num, a.den, a.most)
				checkCount(t, g.part, a.num, a.den, a.most)
			}
		}()
	}
	group.Wait()
}

func ExampleTable() {
	list, e := noise.Table(1, 2, 3)
	fmt.Println(list, int(e))
	_, e = noise.Table(2, 1, 1)
	fmt.Println(e == api.ErrArg)
	// Output:
	// [34952 52428 61166 65536] 0
	// true
}

func ExampleCount() {
	part := make([]byte, 18)
	part[0], part[1] = 0x88, 0x88
	n, e := noise.Count(part, 1, 2, 3)
	fmt.Println(n, int(e))
	_, e = noise.Count(part[:17], 1, 2, 3)
	fmt.Println(e == api.ErrTape)
	// Output:
	// 1 0
	// true
}

func ExampleCells() {
	cells, e := noise.Cells(make([]byte, 18), 2, 1)
	fmt.Println(len(cells), len(cells[0]), int(e))
	fmt.Printf("%x\n", cells[0][:16])
	// Output:
	// 2 320 0
	// 66e94bd4ef8a2c3b884cfa59ca342b2e
}
