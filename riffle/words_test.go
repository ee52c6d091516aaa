package riffle_test

import (
	"bytes"
	"fmt"
	"math"
	"math/rand"
	"slices"
	"testing"

	"churn/api"
	"churn/riffle"
)

func join[T any](pieces ...[]T) []T { return slices.Concat(pieces...) }

// times: a list of n that are all v.
func times[T any](n int, v T) []T { return slices.Repeat([]T{v}, n) }

// withRoom: list in the midst of others, which are its spare room too; and all of them.
func withRoom[T any](list []T, other T) (inside, all []T) {
	all = join(times(5, other), list, times(40, other))
	return all[5 : 5+len(list)], all
}

// with: the list with v at the place at.
func with[T any](list []T, at int, v T) []T {
	out := slices.Clone(list)
	out[at] = v
	return out
}

// brief: a list for a failure's text, cut short.
func brief[T any](list []T) string {
	if len(list) > 80 {
		return fmt.Sprintf("%v .. (%d)", list[:80], len(list))
	}
	return fmt.Sprint(list)
}

// far: numbers that are no number of things and none of chunks.
var far = []int{-1, -2, -64, -128, -255, -256, -1 << 31, -1 << 32, 1 - 1<<32, math.MinInt, math.MinInt + 1,
	257, 258, 512, 1 << 20, 1 << 31, 1 << 32, 1<<32 + 1, math.MaxInt - 1, math.MaxInt}

// upTo: 0, 1, .. n - 1.
func upTo(n int) []int {
	var out []int
	for i := range n {
		out = append(out, i)
	}
	return out
}

// falling: n, n - 1, .. last.
func falling(n, last int) []int {
	var out []int
	for b := n; b >= last; b-- {
		out = append(out, b)
	}
	return out
}

// orders: all permutations of n things.
func orders(n int) [][]int {
	out := [][]int{nil}
	for thing := range n {
		var longer [][]int
		for _, l := range out {
			for at := range len(l) + 1 {
				longer = append(longer, slices.Insert(slices.Clone(l), at, thing))
			}
		}
		out = longer
	}
	return out
}

// some: n bytes without a rule, other ones for another seed.
func some(n int, seed int64) []byte {
	p := make([]byte, n)
	rand.New(rand.NewSource(seed)).Read(p)
	return p
}

// high: n bytes, every second of which at least is so high that most draws pass it over.
func high(n int, seed int64) []byte {
	p := some(n, seed)
	for i := range p {
		if i%2 == 0 {
			p[i] = 250 + p[i]%6
		}
	}
	return p
}

// enough: how many bytes suffice for n things, if all are taken.
func enough(n int) int { return 18 + 2*max(n-1, 0) }

// isOrder: whether each of 0 to n - 1 stands there once.
func isOrder(list []int, n int) bool {
	return slices.Equal(slices.Sorted(slices.Values(list)), upTo(n))
}

// An ordering is what Order gives.
type ordering struct {
	List []int
	Err  api.Errno
}

func (a ordering) String() string { return fmt.Sprintf("%s, error %d", brief(a.List), a.Err) }

func (a ordering) same(b ordering) bool { return slices.Equal(a.List, b.List) && a.Err == b.Err }

// A turning is what Turn gives.
type turning struct {
	Tape []byte
	Err  api.Errno
}

func (a turning) String() string { return fmt.Sprintf("%x, error %d", a.Tape, a.Err) }

func (a turning) same(b turning) bool { return bytes.Equal(a.Tape, b.Tape) && a.Err == b.Err }

// A taking is a byte that a draw takes: its place in the tape (-1: no byte is read), the draw and its bound.
type taking struct {
	At, Draw, Bound int
}

// A reading is what the chapter's words make of a tape, step by step.
type reading struct {
	Order  []int
	Homes  []int      // the chunk at each place
	Visits [][]int    // each chunk's offsets
	Braid  []taking   // the braid's draws
	Chunks [][]taking // each chunk's own
	Read   []bool     // the bytes of the tape that are read
	Err    api.Errno
}

// span: the places of one part in the tape.
type span struct{ from, to int }

// spans: the document's words on a round's tape.
func spans(length, chunks int) (braid span, each []span) {
	behind := length - 18
	braid = span{18, 18 + behind/2}
	q := (length - braid.to) / chunks
	for j := range chunks {
		each = append(each, span{braid.to + j*q, braid.to + (j+1)*q})
	}
	return braid, each
}

// takings: the draws below these bounds from one part of p; none and false, if the part is exhausted.
func takings(p []byte, part span, bounds []int, read []bool) ([]taking, bool) {
	var out []taking
	at := part.from
	for _, b := range bounds {
		if b == 1 {
			out = append(out, taking{-1, 0, 1})
			continue
		}
		for at < part.to && int(p[at]) >= 256-256%b {
			read[at] = true
			at++
		}
		if at >= part.to {
			return nil, false
		}
		read[at] = true
		out = append(out, taking{at, int(p[at]) % b, b})
		at++
	}
	return out, true
}

// decks: n things dealt into chunks of nearly one size, the greater ones first.
func decks(n, chunks int) [][]int {
	out := make([][]int, chunks)
	thing := 0
	for j := range out {
		for len(out[j]) < n/chunks || (len(out[j]) == n/chunks && j < n%chunks) {
			out[j] = append(out[j], thing)
			thing++
		}
	}
	return out
}

// homes: the chunk of each thing, all in the things' order.
func homes(n, chunks int) []int {
	var out []int
	for j, deck := range decks(n, chunks) {
		out = append(out, times(len(deck), j)...)
	}
	return out
}

// defined: the chapter's words: a pool of the chunks' numbers from which the draws take one by one, and decks of things.
func defined(p []byte, n, chunks int) reading {
	if n < 0 || n > 256 || chunks < 1 || chunks > 64 {
		return reading{Err: api.ErrArg}
	}
	if len(p) < 18 {
		return reading{Err: api.ErrTape}
	}
	braid, each := spans(len(p), chunks)
	r := reading{Visits: make([][]int, chunks), Chunks: make([][]taking, chunks), Read: make([]bool, len(p))}
	var ok bool
	if r.Braid, ok = takings(p, braid, falling(n, 1), r.Read); !ok {
		return reading{Err: api.ErrTape}
	}
	pool := homes(n, chunks)
	for _, d := range r.Braid {
		j := pool[d.Draw]
		r.Homes = append(r.Homes, j)
		r.Visits[j] = append(r.Visits[j], d.Draw-slices.Index(pool, j))
		pool = slices.Delete(pool, d.Draw, d.Draw+1)
	}
	all := decks(n, chunks)
	for j, deck := range all {
		if r.Chunks[j], ok = takings(p, each[j], falling(len(deck), 2), r.Read); !ok {
			return reading{Err: api.ErrTape}
		}
		for k, d := range r.Chunks[j] {
			last := len(deck) - 1 - k
			deck[last], deck[d.Draw] = deck[d.Draw], deck[last]
		}
	}
	for _, j := range r.Homes {
		r.Order = append(r.Order, all[j][0])
		all[j] = all[j][1:]
	}
	return r
}

func definedOrder(p []byte, n, chunks int) ordering {
	r := defined(p, n, chunks)
	return ordering{r.Order, r.Err}
}

// told: the byte that tells another draw in the place of the one that is taken.
func told(p []byte, d taking, draw int) {
	if d.At >= 0 {
		p[d.At] = byte(int(p[d.At])/d.Bound*d.Bound + draw)
	}
}

// definedTurn: the chapter's words, in their order.
func definedTurn(p []byte, n, chunks int, want []int) turning {
	switch {
	case n < 0 || n > 256 || chunks < 1 || chunks > 64 || len(want) != n:
		return turning{Err: api.ErrArg}
	case !isOrder(want, n):
		return turning{Err: api.ErrPerm}
	}
	r := defined(p, n, chunks)
	if r.Err != api.OK {
		return turning{Err: r.Err}
	}
	q := slices.Clone(p)
	home, pool := homes(n, chunks), homes(n, chunks)
	own := make([][]int, chunks)
	for i, thing := range want {
		j := home[thing]
		first := slices.Index(pool, j)
		told(q, r.Braid[i], first+r.Visits[j][len(own[j])])
		pool = slices.Delete(pool, first, first+1)
		own[j] = append(own[j], thing)
	}
	for j, deck := range decks(n, chunks) {
		for k, d := range r.Chunks[j] {
			last := len(deck) - 1 - k
			at := slices.Index(deck, own[j][last])
			deck[last], deck[at] = deck[at], deck[last]
			told(q, d, at)
		}
	}
	return turning{Tape: q}
}

func order(p []byte, n, chunks int) ordering {
	l, e := riffle.Order(p, n, chunks)
	return ordering{l, e}
}

func turn(p []byte, n, chunks int, want []int) turning {
	q, e := riffle.Turn(p, n, chunks, want)
	return turning{q, e}
}

func checkOrder(t *testing.T, p []byte, n, chunks int) ordering {
	t.Helper()
	got := order(p, n, chunks)
	if want := definedOrder(p, n, chunks); !got.same(want) {
		t.Errorf("Order(%x, %d, %d) = %v; want %v", p, n, chunks, got, want)
	}
	return got
}

func checkTurn(t *testing.T, p []byte, n, chunks int, want []int) turning {
	t.Helper()
	got := turn(p, n, chunks, want)
	if must := definedTurn(p, n, chunks, want); !got.same(must) {
		t.Errorf("Turn(%x, %d, %d, %s) = %v; want %v", p, n, chunks, brief(want), got, must)
	}
	return got
}

// checkShuffle: the errors of Order, or things of their own names in its order.
func checkShuffle(t *testing.T, p []byte, n, chunks int) {
	t.Helper()
	list := make([]string, n)
	for i := range list {
		list[i] = fmt.Sprint("thing ", i)
	}
	got, e := riffle.Shuffle(p, chunks, list)
	want := definedOrder(p, n, chunks)
	var must []string
	for _, v := range want.List {
		must = append(must, list[v])
	}
	if !slices.Equal(got, must) || e != want.Err {
		t.Errorf("Shuffle(%x, %d, %d things) = %s, error %d; want %s, error %d", p, chunks, n, brief(got), e, brief(must), want.Err)
	}
}

// checkThereAndBack: P13.2 and P13.3 of one tape and one order that is wanted.
func checkThereAndBack(t *testing.T, p []byte, n, chunks int, want []int) {
	t.Helper()
	own, there := order(p, n, chunks), checkTurn(t, p, n, chunks, want)
	if own.Err != there.Err {
		t.Errorf("Order(%x, %d, %d): error %d, but Turn: error %d", p, n, chunks, own.Err, there.Err)
	}
	if there.Err != api.OK {
		return
	}
	if len(there.Tape) != len(p) {
		t.Errorf("Turn(%x, %d, %d, %s): %d bytes; want %d", p, n, chunks, brief(want), len(there.Tape), len(p))
	}
	if got := order(there.Tape, n, chunks); !got.same(ordering{List: want}) {
		t.Errorf("Order(Turn(%x, %d, %d, %s)) = %v", p, n, chunks, brief(want), got)
	}
	if back := turn(there.Tape, n, chunks, own.List); !back.same(turning{Tape: p}) {
		t.Errorf("Turn(Turn(%x, %d, %d, %s), .., Order) = %v", p, n, chunks, brief(want), back)
	}
}
