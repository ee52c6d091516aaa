package riffle_test

import (
	"math/rand"
	"slices"
	"testing"

	"churn/api"
	"churn/braid"
	"churn/draw"
	"churn/perm"
	"churn/riffle"
	"churn/tape"
)

// kinds: tapes of one length, of each kind: without a rule, with bytes that are passed over, all noughts, all 255.
func kinds(length int, seed int64) [][]byte {
	return [][]byte{some(length, seed), high(length, seed), times(length, byte(0)), times(length, byte(255))}
}

// P13.1: all small numbers of things in all small numbers of chunks and in 64, by tapes of every length up to 80.
func TestEverySmallOrder(t *testing.T) {
	for n := range 12 {
		for _, chunks := range append(upTo(14), 64) {
			for length := range 81 {
				for _, p := range kinds(length, int64(length)) {
					checkOrder(t, p, n, chunks)
					checkShuffle(t, p, n, chunks)
				}
			}
		}
	}
}

// P13.1: things, chunks and lengths without a rule, up to MaxBatch and MaxChunks.
func TestOrdersWithoutARule(t *testing.T) {
	r := rand.New(rand.NewSource(1311))
	for i := range 1500 {
		n, chunks := r.Intn(257), 1+r.Intn(64)
		for _, p := range kinds(enough(n)+r.Intn(600), int64(i)) {
			checkOrder(t, p, n, chunks)
			checkShuffle(t, p, n, chunks)
		}
	}
	for _, chunks := range []int{1, 2, 3, 4, 63, 64} {
		for _, n := range []int{255, 256} {
			if got := checkOrder(t, some(5000, int64(chunks)), n, chunks); got.Err != api.OK {
				t.Errorf("Order(5000 bytes, %d, %d) = %v", n, chunks, got)
			}
		}
	}
}

// steps: the chapter's steps, from what the layers below answer.
func steps(t *testing.T, p []byte, n, chunks int) ordering {
	t.Helper()
	parts, e := tape.Split(p, chunks)
	if e != api.OK {
		return ordering{Err: e}
	}
	sizes, _ := braid.Sizes(n, chunks)
	draws, _, e := draw.All(parts.Braid, braid.Bounds(n))
	if e != api.OK {
		return ordering{Err: e}
	}
	pattern, _, _ := braid.Pattern(sizes, draws)
	own := make([][]int, chunks)
	starts := make([]int, chunks+1)
	for j, s := range sizes {
		draws, _, e := draw.All(parts.Chunks[j], perm.Bounds(s))
		if e != api.OK {
			return ordering{Err: e}
		}
		own[j], _ = perm.From(s, draws)
		starts[j+1] = starts[j] + s
	}
	seen := make([]int, chunks)
	list := make([]int, n)
	for i, j := range pattern {
		list[i] = starts[j] + own[j][seen[j]]
		seen[j]++
	}
	return ordering{List: list}
}

// P13.1: the order is put together by the chapter's steps from Split, Sizes, Bounds, All, Pattern and From; it is a permutation, and Shuffle's list is perm.Apply's.
func TestBySteps(t *testing.T) {
	r := rand.New(rand.NewSource(1312))
	told := 0
	for i := range 3000 {
		n, chunks := r.Intn(257), 1+r.Intn(64)
		if i%2 == 0 {
			n, chunks = r.Intn(12), 1+r.Intn(6)
		}
		p := some(enough(n)+r.Intn(80+n), int64(i))
		got, want := order(p, n, chunks), steps(t, p, n, chunks)
		if !got.same(want) {
			t.Errorf("Order(%x, %d, %d) = %v; want %v", p, n, chunks, got, want)
		}
		if got.Err != api.OK {
			continue
		}
		told++
		if !isOrder(got.List, n) || perm.Check(got.List) != api.OK {
			t.Errorf("Order(%x, %d, %d) = %v: no permutation", p, n, chunks, got)
		}
		list := some(n, int64(-i))
		shuffled, e := riffle.Shuffle(p, chunks, list)
		if applied, _ := perm.Apply(got.List, list); !slices.Equal(shuffled, applied) || e != api.OK {
			t.Errorf("Shuffle(%x, %d, %v) = %v, error %d; want %v", p, chunks, list, shuffled, e, applied)
		}
	}
	if told < 1000 {
		t.Errorf("%d tapes alone were not exhausted", told)
	}
}

// P13.1: where all bytes are taken, every number of things has a least tape, the same for all chunks: one byte less is exhausted.
func TestLeastTapes(t *testing.T) {
	for n := range 257 {
		for _, chunks := range []int{1, 2, 3, 5, 16, 31, 63, 64} {
			p := times(enough(n), byte(0))
			if got := checkOrder(t, p, n, chunks); got.Err != api.OK || !isOrder(got.List, n) {
				t.Errorf("Order(%d noughts, %d, %d) = %v", len(p), n, chunks, got)
			}
			for _, less := range []int{1, 2, 3, 18} {
				if got := order(p[less:], n, chunks); !got.same(ordering{Err: api.ErrTape}) {
					t.Errorf("Order(%d noughts, %d, %d) = %v; want error 3", len(p)-less, n, chunks, got)
				}
			}
			if got := checkOrder(t, times(len(p)+1, byte(0)), n, chunks); got.Err != api.OK {
				t.Errorf("Order(%d noughts, %d, %d) = %v", len(p)+1, n, chunks, got)
			}
		}
	}
}

// P13.1: tapes shorter than the noise's part are exhausted, whatever is asked; one of just its length suffices for none and for one thing.
func TestNoiseAlone(t *testing.T) {
	for _, chunks := range []int{1, 2, 18, 64} {
		for length := range 18 {
			for n := range 4 {
				if got := order(some(length, 1), n, chunks); !got.same(ordering{Err: api.ErrTape}) {
					t.Errorf("Order(%d bytes, %d, %d) = %v; want error 3", length, n, chunks, got)
				}
			}
		}
		for n, want := range []ordering{{}, {List: []int{0}}, {Err: api.ErrTape}, {Err: api.ErrTape}} {
			for length := 18; length < 20; length++ {
				if got := order(some(length, 2), n, chunks); !got.same(want) {
					t.Errorf("Order(%d bytes, %d, %d) = %v; want %v", length, n, chunks, got, want)
				}
			}
		}
	}
}

// passing: the first of the bounds of n things whose draws pass bytes over; -1, if there is none.
func passing(n int) int {
	return slices.IndexFunc(falling(n, 2), func(b int) bool { return 256%b != 0 })
}

// filled: a part of so many bytes that n things' draws read to its last byte, since so many as needed are passed over; if less is 1, they lack just one more.
func filled(n, length, less int, seed int64) []byte {
	taken := some(n-1, seed)
	for i, b := range falling(n, 2) {
		if 256%b != 0 {
			taken[i] %= byte(b)
		}
	}
	all := slices.Insert(taken, passing(n), times(length-(n-1)+less, byte(255))...)
	return all[:length]
}

// P13.1, P13.3: tapes whose braid's part ends just behind the last byte that is read, and just ahead of it.
func TestEndOfTheBraid(t *testing.T) {
	for _, n := range []int{3, 4, 5, 7, 12, 64, 100, 255, 256} {
		for _, chunks := range []int{1, 2, 3, 8, 64} {
			for _, more := range []int{0, 1, 2, 5} {
				for odd := range 2 {
					length := n - 1 + more
					rest := times(length+odd, byte(0))
					whole := join(some(18, 3), filled(n, length, 0, int64(n)), rest)
					if got := checkOrder(t, whole, n, chunks); got.Err != api.OK {
						t.Errorf("Order(%x, %d, %d) = %v", whole, n, chunks, got)
					}
					checkThereAndBack(t, whole, n, chunks, rand.New(rand.NewSource(int64(n))).Perm(n))
					short := join(some(18, 3), filled(n, length, 1, int64(n)), rest)
					if got := checkOrder(t, short, n, chunks); !got.same(ordering{Err: api.ErrTape}) {
						t.Errorf("Order(%x, %d, %d) = %v; want error 3", short, n, chunks, got)
					}
					checkThereAndBack(t, short, n, chunks, upTo(n))
				}
			}
		}
	}
}

// P13.1, P13.3: tapes of which one chunk's part, each in turn, ends just behind the last byte that is read, and just ahead of it.
func TestEndOfAChunk(t *testing.T) {
	for _, c := range [][2]int{{3, 1}, {4, 1}, {7, 2}, {9, 3}, {11, 3}, {16, 5}, {40, 5}, {200, 64}, {256, 64}, {256, 3}, {256, 1}} {
		n, chunks := c[0], c[1]
		for _, more := range []int{0, 1, 4} {
			for _, left := range []int{0, chunks - 1} {
				// Each chunk's part has q bytes, and the braid's part as many as all of them and what is left.
				q := (n-1)/chunks + more
				all := q*chunks + left
				if all < n-1 {
					continue
				}
				head := join(some(18, 4), times(all, byte(0)))
				for j, deck := range decks(n, chunks) {
					if len(deck) < 3 {
						continue
					}
					for less := range 2 {
						p := join(head, times(q*j, byte(0)), filled(len(deck), q, less, int64(j)), times(q*(chunks-1-j)+left, byte(0)))
						got := checkOrder(t, p, n, chunks)
						if (less == 0) != (got.Err == api.OK) || (less == 1) != (got.Err == api.ErrTape) {
							t.Errorf("chunk %d lacks %d: Order(%x, %d, %d) = %v", j, less, p, n, chunks, got)
						}
						checkThereAndBack(t, p, n, chunks, rand.New(rand.NewSource(int64(j))).Perm(n))
					}
				}
			}
		}
	}
}

// P13.1: 255 alone tells two things' draws, and no more things' ever, however long the tape is.
func TestPassedOverAlone(t *testing.T) {
	for _, length := range []int{20, 100, 5000} {
		for _, chunks := range []int{1, 2, 64} {
			p := times(length, byte(255))
			if got := checkOrder(t, p, 2, chunks); got.Err != api.OK {
				t.Errorf("Order(%d times 255, 2, %d) = %v", length, chunks, got)
			}
			for _, n := range []int{3, 4, 16, 255, 256} {
				if got := order(p, n, chunks); !got.same(ordering{Err: api.ErrTape}) {
					t.Errorf("Order(%d times 255, %d, %d) = %v; want error 3", length, n, chunks, got)
				}
			}
		}
	}
}

// P13.4: the noise's part does not show: each of its bytes changed, and all of them.
func TestNoiseDoesNotShow(t *testing.T) {
	r := rand.New(rand.NewSource(1313))
	for i := range 300 {
		n, chunks := r.Intn(257), 1+r.Intn(64)
		p := some(enough(n)+r.Intn(2*n+20), int64(i))
		want := order(p, n, chunks)
		other := join(some(18, int64(-i)), p[18:])
		if got := order(other, n, chunks); !got.same(want) {
			t.Errorf("Order(%x, %d, %d) = %v; with other noise %v", p, n, chunks, want, got)
		}
		for at := range 18 {
			if got := order(with(p, at, ^p[at]), n, chunks); !got.same(want) {
				t.Errorf("Order(%x, %d, %d) = %v; with byte %d changed %v", p, n, chunks, want, at, got)
			}
		}
	}
}

// P13.4: bytes that no draw reads do not show either: behind the last one that is read in each part, and behind the last part.
func TestUnreadDoesNotShow(t *testing.T) {
	r := rand.New(rand.NewSource(1314))
	unread := 0
	for i := range 600 {
		n, chunks := r.Intn(40), 1+r.Intn(12)
		p := some(enough(n)+r.Intn(4*n+40), int64(i))
		read := defined(p, n, chunks)
		if read.Err != api.OK {
			continue
		}
		other := slices.Clone(p)
		for at, is := range read.Read {
			if !is {
				other[at] = byte(r.Intn(256))
				unread++
				if got := order(with(p, at, ^p[at]), n, chunks); !got.same(ordering{List: read.Order}) {
					t.Errorf("Order(%x, %d, %d): with byte %d changed %v; want %v", p, n, chunks, at, got, read.Order)
				}
			}
		}
		if got := order(other, n, chunks); !got.same(ordering{List: read.Order}) {
			t.Errorf("Order(%x, %d, %d) = %v; want %v", other, n, chunks, got, read.Order)
		}
	}
	if unread < 5000 {
		t.Errorf("%d bytes alone were not read", unread)
	}
}

// P13.5: with one chunk the order is the chunk's own permutation alone, whatever the braid's part says, if it suffices.
func TestOneChunk(t *testing.T) {
	for n := range 257 {
		p := some(enough(n)+3*n+40, int64(n))
		parts, _ := tape.Split(p, 1)
		draws, _, e := draw.All(parts.Chunks[0], perm.Bounds(n))
		if e != api.OK {
			t.Fatalf("%d things: the tape is too short for the test", n)
		}
		own, _ := perm.From(n, draws)
		for seed := range int64(4) {
			braids := kinds(len(parts.Braid), seed)
			for k, part := range append(braids, parts.Braid) {
				got := order(join(parts.Noise, part, parts.Chunks[0]), n, 1)
				_, _, e := draw.All(part, braid.Bounds(n))
				want := ordering{List: own}
				if e != api.OK {
					want = ordering{Err: api.ErrTape}
				}
				if !got.same(want) {
					t.Errorf("Order of %d things, braid's part %d, %x: %v; want %v", n, k, part, got, want)
				}
			}
		}
	}
}

// P13.5: with at least n chunks the order is the pattern's, whatever the chunks' parts say.
func TestChunksOfOneThing(t *testing.T) {
	for n := range 65 {
		for _, chunks := range []int{n, n + 1, 2*n + 1, 63, 64} {
			if chunks < max(n, 1) || chunks > 64 {
				continue
			}
			p := some(enough(n)+3*n+40, int64(n))
			parts, _ := tape.Split(p, chunks)
			sizes, _ := braid.Sizes(n, chunks)
			if slices.Max(sizes) > 1 {
				t.Fatalf("Sizes(%d, %d) = %v", n, chunks, sizes)
			}
			draws, _, e := draw.All(parts.Braid, braid.Bounds(n))
			if e != api.OK {
				t.Fatalf("%d things: the tape is too short for the test", n)
			}
			pattern, _, _ := braid.Pattern(sizes, draws)
			head := join(parts.Noise, parts.Braid)
			for _, rest := range kinds(len(p)-len(head), int64(chunks)) {
				if got := order(join(head, rest), n, chunks); !got.same(ordering{List: pattern}) {
					t.Errorf("Order of %d things in %d chunks: %v; want %v", n, chunks, got, pattern)
				}
			}
		}
	}
}
