package line_test

import (
	"crypto/sha256"
	"fmt"
	"slices"
	"testing"

	"churn/api"
)

// ruled: a script of so many numbers by a short rule that another program follows too.
func ruled(seed, n int) []int {
	script := make([]int, n)
	for i := range script {
		script[i] = ((i+seed)*(i+seed)*31+i*7*seed)%1009 - 500
	}
	return script
}

// knownRun: a round of so many cells, refused at its noise or not.
func knownRun(n, workers, chunks, capacity int, refused bool) given {
	g := batch(quiet(workers, chunks, capacity), cells[:n])
	if refused {
		g.tape = g.tape[:17]
	}
	return g
}

// P22.1: histories as another program told them, whose tasks are coroutines: how many picks, how many in flight, and the SHA-256 of the picks, a byte each.
func TestKnownHistories(t *testing.T) {
	for _, k := range []struct {
		n, workers, chunks, capacity int
		refused                      bool
		seed, numbers                int
		picks, most                  int
		sum                          string
	}{
		{0, 1, 1, 0, false, 0, 0, 11, 1, "2aa2322b37772b8e"},
		{1, 1, 1, 1, false, 0, 0, 18, 1, "077a1cae5e4490ca"},
		{3, 2, 2, 1, false, 1, 30, 35, 2, "8791db483f118bb0"},
		{5, 3, 2, 0, false, 2, 100, 33, 3, "d70af39c2bdb4111"},
		{5, 3, 2, 0, false, 2, 20, 33, 3, "f146154dfd7bee3a"},
		{8, 4, 5, 2, false, 3, 200, 79, 6, "91ca6444ceae0085"},
		{8, 4, 5, 2, true, 3, 200, 54, 6, "58e097909382369a"},
		{12, 5, 7, 0, true, 4, 200, 52, 11, "6fcb941bc6c19777"},
		{20, 8, 16, 3, false, 5, 400, 202, 11, "09f55d2f3a4f5ce6"},
		{40, 2, 64, 0, false, 6, 600, 322, 6, "ffb9ead63332f19c"},
		{40, 64, 3, 1, false, 7, 1000, 349, 28, "9ae1ec1d0e38b7d8"},
		{100, 9, 10, 0, false, 8, 2000, 354, 22, "a7867fc9c94f2971"},
		{100, 9, 10, 17, false, 9, 2000, 574, 15, "c8eb161671375703"},
		{256, 64, 64, 0, false, 10, 3000, 1094, 215, "c285700d61e5a31d"},
		{256, 64, 64, 1, false, 11, 3000, 1734, 65, "8fab22d3959bf11a"},
		{256, 64, 64, 1024, false, 12, 3000, 1734, 20, "4838c70ff3f816bf"},
		{256, 7, 1, 5, false, 13, 900, 1305, 77, "168cb473261053ff"},
		{256, 1, 64, 2, true, 14, 3000, 1288, 5, "16485d9809e6ba98"},
		{64, 64, 64, 64, false, 15, 3000, 774, 27, "48ba4aee174bab4d"},
		{33, 32, 31, 0, false, 16, 50, 262, 33, "7fcb7296f943eb13"},
	} {
		g := knownRun(k.n, k.workers, k.chunks, k.capacity, k.refused)
		o, h := g.run(ruled(k.seed, k.numbers)...)
		var picks []byte
		for _, task := range h.Picks {
			picks = append(picks, byte(task))
		}
		sum := fmt.Sprintf("%x", sha256.Sum256(picks))[:16]
		if len(h.Picks) != k.picks || h.Most != k.most || sum != k.sum || !h.Ended || (o.Err != api.OK) != k.refused {
			t.Errorf("%v: %d picks, most %d, %s, error %d; want %d, %d, %s", g, len(h.Picks), h.Most, sum, o.Err, k.picks, k.most, k.sum)
		}
	}
}

// P22.1: a few of them pick by pick.
func TestKnownPicks(t *testing.T) {
	for _, k := range []struct {
		n, workers, chunks, capacity int
		refused                      bool
		seed, most                   int
		picks                        []int
	}{
		{2, 2, 2, 0, false, 3, 2, []int{1, 2, 2, 2, 0, 2, 1, 1, 1, 3, 3, 5, 3, 3, 4, 4, 4, 5, 5, 5, 6, 6}},
		{2, 2, 1, 1, false, 9, 2, []int{0, 1, 0, 0, 1, 2, 1, 1, 2, 3, 2, 3, 2, 3, 3, 3, 3, 4, 4, 4, 6, 5, 4, 6, 6}},
		{3, 2, 1, 2, true, 5, 3, []int{0, 2, 0, 0, 1, 0, 1, 2, 1, 3, 1, 2, 3, 2, 1, 1, 3, 1, 3, 3, 3, 4, 5, 6, 6}},
	} {
		g := knownRun(k.n, k.workers, k.chunks, k.capacity, k.refused)
		if _, h := g.run(ruled(k.seed, 40)...); !slices.Equal(h.Picks, k.picks) || h.Most != k.most {
			t.Errorf("%v: %v, most %d; want %v, %d", g, h.Picks, h.Most, k.picks, k.most)
		}
	}
}
