package riffle_test

import (
	"bytes"
	"fmt"
	"math/rand"
	"slices"
	"testing"

	"churn/api"
	"churn/riffle"
)

// P13.1, P13.2, P13.3: every order of up to four things wanted, in few chunks and many, by tapes of every length up to 40, exhausted or not.
func TestEveryOrderOfFew(t *testing.T) {
	for n := range 5 {
		for _, want := range orders(n) {
			for _, chunks := range []int{1, 2, 3, 4, 5, 64} {
				for length := 15; length <= 40; length++ {
					for _, p := range kinds(length, int64(length)) {
						checkThereAndBack(t, p, n, chunks, want)
					}
				}
			}
		}
	}
}

// P13.2: a tape that is turned twice is the one that is turned to the second order at once; turned to its own order it is as it was.
func TestTurnedTwice(t *testing.T) {
	for n := range 5 {
		for _, chunks := range []int{1, 2, 3, 5} {
			for seed := range int64(3) {
				p := some(enough(n)+int(seed)*5, 100+seed)
				own := order(p, n, chunks)
				if own.Err != api.OK {
					continue
				}
				if got := turn(p, n, chunks, own.List); !got.same(turning{Tape: p}) {
					t.Errorf("Turn(%x, %d, %d, its own) = %v", p, n, chunks, got)
				}
				for _, a := range orders(n) {
					once := turn(p, n, chunks, a).Tape
					for _, b := range orders(n) {
						if got, want := turn(once, n, chunks, b), turn(p, n, chunks, b); !got.same(want) {
							t.Errorf("Turn(%x, %d, %d, %v) by way of %v = %v; want %v", p, n, chunks, b, a, got, want)
						}
					}
				}
			}
		}
	}
}

// P13.1, P13.2, P13.3: longer orders up to MaxBatch, in any number of chunks, by tapes that suffice and others.
func TestLongerTurns(t *testing.T) {
	r := rand.New(rand.NewSource(1321))
	turned := 0
	for i := range 1200 {
		n, chunks := r.Intn(257), 1+r.Intn(64)
		switch i % 4 {
		case 0:
			n, chunks = r.Intn(20), 1+r.Intn(8)
		case 1:
			n, chunks = 256, []int{1, 2, 3, 63, 64}[r.Intn(5)]
		}
		p := some(enough(n)+r.Intn(2*n+40), int64(i))
		if i%5 == 0 {
			p = high(2*len(p), int64(i))
		}
		want := r.Perm(n)
		switch i % 7 {
		case 5:
			want = upTo(n)
		case 6:
			want = upTo(n)
			slices.Reverse(want)
		}
		checkThereAndBack(t, p, n, chunks, want)
		if order(p, n, chunks).Err == api.OK {
			turned++
		}
	}
	if turned < 400 {
		t.Errorf("%d tapes alone were not exhausted", turned)
	}
}

// P13.3: whatever order is wanted, Turn is exhausted just where Order is, about the length at which the tape begins to suffice.
func TestExhaustedOrNot(t *testing.T) {
	r := rand.New(rand.NewSource(1322))
	for range 150 {
		n, chunks := 2+r.Intn(40), 1+r.Intn(10)
		whole := some(3000, r.Int63())
		both := [2]int{}
		for length := enough(n) - 3; length < enough(n)+60; length++ {
			p := whole[:length]
			own := order(p, n, chunks)
			if own.Err == api.OK {
				both[0]++
			} else {
				both[1]++
			}
			for _, want := range [][]int{upTo(n), r.Perm(n)} {
				if got := turn(p, n, chunks, want); got.Err != own.Err {
					t.Errorf("Order(%x, %d, %d) = %v, but Turn to %v: error %d", p, n, chunks, own, want, got.Err)
				}
			}
		}
		if both[1] < 3 {
			t.Errorf("%d things in %d chunks: %d tapes were exhausted", n, chunks, both[1])
		}
	}
}

// P13.1: only bytes that a draw takes change in a turned tape: neither the noise's part, nor those that are passed over, nor those that aren't read.
func TestWhatStays(t *testing.T) {
	r := rand.New(rand.NewSource(1323))
	for i := range 800 {
		n, chunks := r.Intn(60), 1+r.Intn(12)
		p := some(enough(n)+r.Intn(4*n+40), int64(i))
		if i%3 == 0 {
			p = high(2*len(p), int64(i))
		}
		read := defined(p, n, chunks)
		if read.Err != api.OK {
			continue
		}
		taken := make([]bool, len(p))
		for _, list := range append(read.Chunks, read.Braid) {
			for _, d := range list {
				if d.At >= 0 {
					taken[d.At] = true
				}
			}
		}
		want := r.Perm(n)
		q := turn(p, n, chunks, want)
		for at := range p {
			if !taken[at] && q.Tape[at] != p[at] {
				t.Errorf("Turn(%x, %d, %d, %v): byte %d is %d", p, n, chunks, want, at, q.Tape[at])
			}
		}
		// Other bytes in the places that no draw reads come out as they went in, and change none of those that are read.
		other, must := bytes.Clone(p), bytes.Clone(q.Tape)
		for at, is := range read.Read {
			if !is {
				other[at] = byte(r.Intn(256))
				must[at] = other[at]
			}
		}
		if got := turn(other, n, chunks, want); !got.same(turning{Tape: must}) {
			t.Errorf("Turn(%x, %d, %d, %v) = %v; want %x", other, n, chunks, want, got, must)
		}
	}
}

// P13.1: with one chunk the braid's part stays, since there is one pattern alone; with at least n chunks the chunks' parts do.
func TestPartsThatStay(t *testing.T) {
	r := rand.New(rand.NewSource(1324))
	for n := 2; n <= 64; n++ {
		p := some(enough(n)+4*n+60, int64(n))
		want := r.Perm(n)
		braid, _ := spans(len(p), 1)
		if q := turn(p, n, 1, want); q.Err != api.OK || !bytes.Equal(q.Tape[:braid.to], p[:braid.to]) {
			t.Errorf("Turn(%x, %d, 1, %v) = %v: the braid's part has changed", p, n, want, q)
		}
		if q := turn(p, n, 64, want); q.Err != api.OK || !bytes.Equal(q.Tape[braid.to:], p[braid.to:]) {
			t.Errorf("Turn(%x, %d, 64, %v) = %v: the chunks' parts have changed", p, n, want, q)
		}
	}
}

// A shape is a family of tapes: so many things in so many chunks, and the bytes that each place behind the noise's part may hold.
type shape struct {
	what      string
	n, chunks int
	places    [][]byte
}

// every: all values of a byte.
func every() []byte {
	var out []byte
	for v := range 256 {
		out = append(out, byte(v))
	}
	return out
}

// evenBelowThree: bytes that are even below 2 and 3, with 255 among them, which is passed over below 3.
func evenBelowThree() []byte { return []byte{0, 1, 2, 3, 4, 5, 252, 253, 254, 255} }

// shapes: families in which each place's bytes are as many for each draw that they may tell, those that are passed over aside.
func shapes() []shape {
	one, all, three := []byte{7}, every(), evenBelowThree()
	// Even below 2, 3 and 4, with 255 among them.
	four := append([]byte{6, 7, 8, 9, 10, 11}, three...)
	// Even below 2, 3 and 4, none passed over.
	twelve := []byte{0, 1, 2, 3, 4, 5, 6, 7, 8, 9, 10, 11}
	return []shape{
		{"two things, one chunk, all bytes", 2, 1, [][]byte{all, all}},
		{"two things, two chunks, all bytes", 2, 2, [][]byte{all, all}},
		{"three things, three chunks, all bytes", 3, 3, [][]byte{all, all, one, one}},
		{"three things, one chunk, all bytes of the chunk", 3, 1, [][]byte{one, {9}, all, all}},
		{"three things, one chunk", 3, 1, [][]byte{three, three, three, three, three}},
		{"three things, two chunks", 3, 2, [][]byte{three, three, three, three, {1}}},
		{"three things, two chunks, longer", 3, 2, [][]byte{three, three, three, three, {1}, {2}, {3}}},
		{"three things, five chunks", 3, 5, [][]byte{three, three, three, {1}, {2}, {3}}},
		{"four things, one chunk", 4, 1, [][]byte{{3, 255}, {0, 1}, {2}, four, four, four}},
		{"four things, two chunks", 4, 2, [][]byte{four, four, four, {0, 1, 255, 254}, {4, 5}, {6}}},
		{"four things, two chunks, none passed over", 4, 2, [][]byte{twelve, twelve, twelve, twelve, {0, 1}, {6}}},
		{"four things, three chunks", 4, 3, [][]byte{four, four, four, {254, 255}, {0}, {0}}},
		{"four things, four chunks, longer", 4, 4, [][]byte{four, four, four, four, one, one, one, one}},
	}
}

// tapes: all tapes of the shape, one by one; the same memory each time.
func (s shape) tapes(yield func([]byte) bool) {
	p := make([]byte, 18+len(s.places))
	var from func(at int) bool
	from = func(at int) bool {
		if at == len(s.places) {
			return yield(p)
		}
		for _, v := range s.places[at] {
			p[18+at] = v
			if !from(at + 1) {
				return false
			}
		}
		return true
	}
	from(0)
}

// P13.2: all tapes of some small shape fall into classes by the order that they give, one for each order, all equally large.
func TestEven(t *testing.T) {
	for _, s := range shapes() {
		count, exhausted := map[string]int{}, 0
		s.tapes(func(p []byte) bool {
			list, e := riffle.Order(p, s.n, s.chunks)
			switch e {
			case api.OK:
				count[fmt.Sprint(list)]++
			case api.ErrTape:
				exhausted++
			default:
				t.Errorf("%s: Order(%x) = %v, error %d", s.what, p, list, e)
			}
			return true
		})
		all := orders(s.n)
		first := count[fmt.Sprint(all[0])]
		for _, o := range all {
			if got := count[fmt.Sprint(o)]; got != first || got == 0 {
				t.Errorf("%s: %d tapes give %v, but %d give %v", s.what, got, o, first, all[0])
			}
		}
		if len(count) != len(all) {
			t.Errorf("%s: %d orders; want %d", s.what, len(count), len(all))
		}
	}
}

// P13.2: from the tapes of a shape that give one order Turn goes one to one to those that give another: none is met twice, and none is left out.
func TestOneToOne(t *testing.T) {
	three := evenBelowThree()
	for _, s := range []shape{
		{"two things, one chunk, all bytes", 2, 1, [][]byte{every(), {0, 1, 200, 201, 254, 255}}},
		{"three things, three chunks, all bytes", 3, 3, [][]byte{every(), {0, 1, 2, 3, 4, 5}, {7}, {7}}},
		{"three things, two chunks", 3, 2, [][]byte{three, three, three, {0, 1, 254, 255}, {8}, {9}}},
		{"four things, two chunks", 4, 2, [][]byte{{0, 1, 2, 3}, {0, 1, 2}, {0, 1}, {0, 1}, {254, 255}, {6}}},
	} {
		classes := map[string][]string{}
		s.tapes(func(p []byte) bool {
			if list, e := riffle.Order(p, s.n, s.chunks); e == api.OK {
				key := fmt.Sprint(list)
				classes[key] = append(classes[key], string(p))
			}
			return true
		})
		for _, from := range orders(s.n) {
			for _, to := range orders(s.n) {
				met := map[string]int{}
				for _, p := range classes[fmt.Sprint(from)] {
					q := turn([]byte(p), s.n, s.chunks, to)
					met[string(q.Tape)]++
				}
				if len(met) != len(classes[fmt.Sprint(from)]) || len(met) == 0 {
					t.Errorf("%s: from %v to %v: %d tapes to %d", s.what, from, to, len(classes[fmt.Sprint(from)]), len(met))
				}
				for _, q := range classes[fmt.Sprint(to)] {
					if met[q] != 1 {
						t.Errorf("%s: from %v to %v: %x is met %d times", s.what, from, to, q, met[q])
					}
				}
			}
		}
	}
}
