package talk_test

import (
	"bytes"
	"fmt"
	"math"
	"slices"
	"testing"

	"churn/api"
	"churn/drop"
	"churn/reply"
	"churn/route"
)

// checkHear: what Hear answers, held against the words and against what is wanted.
func checkHear(t *testing.T, what string, masters [][]byte, epoch int64, nonces [][16]byte, c []byte, want heard) {
	t.Helper()
	got := hear(masters, epoch, nonces, c)
	if got != want {
		t.Errorf("%s: %+v; want %+v", what, got, want)
	}
	if words := definedHear(masters, epoch, nonces, c); words != want {
		t.Errorf("%s, by the words: %+v; want %+v", what, words, want)
	}
}

// deaf: Hear answers this error, and nothing else.
func deaf(t *testing.T, what string, masters [][]byte, epoch int64, nonces [][16]byte, c []byte, e api.Errno) {
	t.Helper()
	checkHear(t, what, masters, epoch, nonces, c, heard{Err: e})
}

// answered: the cell in which this payload comes back to number k through so many hops.
func answered(hops int, epoch int64, k int, payload string) []byte {
	return comesBack(hops, hops, epoch, nonces(hops, k), []byte(payload))
}

// P30.1: each of the answers there is, through each number of servers: Alone, Met with messages of all lengths, Crowded and Broken.
func TestHear(t *testing.T) {
	for hops := 1; hops <= 8; hops++ {
		for how, payload := range []string{drop.Alone: "\x00", drop.Met: "\x01", drop.Crowded: "\x02", drop.Broken: "\x03"} {
			checkHear(t, fmt.Sprintf("%d hops, answer %d", hops, how), masters(hops), 5, nonces(hops, 1), answered(hops, 5, 1, payload), heard{How: how})
		}
		for _, message := range messages() {
			checkHear(t, fmt.Sprintf("%d hops, %q", hops, message), masters(hops), 5, nonces(hops, 1), answered(hops, 5, 1, "\x01"+message), heard{1, message, 0})
		}
	}
	for length := range 41 {
		message := string(some(length, int64(length)))
		checkHear(t, fmt.Sprint("a message of ", length), masters(3), 5, nonces(3, length), answered(3, 5, length, "\x01"+message), heard{1, message, 0})
	}
}

// P30.1: so is what reply.Chain makes under the keys of the epoch.
func TestHearOfAChain(t *testing.T) {
	for hops := 1; hops <= 8; hops++ {
		var keys [][]byte
		for _, m := range masters(hops) {
			keys = append(keys, must(route.Key(m, 6)))
		}
		for i, message := range messages() {
			c := must(reply.Chain(keys, nonces(hops, i), []byte("\x01"+message)))
			checkHear(t, fmt.Sprintf("%d hops, %q", hops, message), masters(hops), 6, nonces(hops, i), c, heard{drop.Met, message, 0})
		}
	}
}

// P30.1: epochs at their limits, and one past them; the answer of one epoch in another.
func TestHearEpochs(t *testing.T) {
	for _, epoch := range []int64{0, 1, 255, 256, top - 1, top} {
		c := answered(2, epoch, 1, "\x01hi")
		checkHear(t, fmt.Sprint("epoch ", epoch), masters(2), epoch, nonces(2, 1), c, heard{1, "hi", 0})
		deaf(t, "in another epoch", masters(2), (epoch+7)%top, nonces(2, 1), c, api.ErrTag)
		for _, wrong := range []int64{-1, top + 1, math.MinInt64, math.MaxInt64} {
			deaf(t, fmt.Sprint("epoch ", wrong), masters(2), wrong, nonces(2, 1), c, api.ErrArg)
		}
	}
}

// P30.1: master keys of other lengths at each place: route.Key's error, ahead of all that is wrong with the nonces, the path and the cell.
func TestHearKeyErrors(t *testing.T) {
	for hops := 1; hops <= 10; hops++ {
		for at := range hops {
			for _, length := range []int{0, 1, 31, 33, 64} {
				what := fmt.Sprintf("key %d of %d has %d bytes", at, hops, length)
				wrong := with(masters(hops), at, make([]byte, length))
				deaf(t, what, wrong, 5, nonces(hops, 1), answered(min(hops, 8), 5, 1, "\x00"), api.ErrArg)
				deaf(t, what+", a nonce too few, no cell", wrong, 5, nonces(hops-1, 1), nil, api.ErrArg)
				deaf(t, what+", no such epoch", wrong, -1, nil, noughts, api.ErrArg)
			}
		}
	}
}

// P30.1: a path that is none, and nonces that are too few or too many: ErrChain, ahead of all that is wrong with the cell.
func TestHearChainErrors(t *testing.T) {
	for hops := range 12 {
		whole := answered(min(max(hops, 1), 8), 5, 1, "\x00")
		for _, c := range [][]byte{whole, nil, whole[:319], noughts} {
			for _, n := range []int{0, hops - 1, hops, hops + 1, 2*hops + 1} {
				if n >= 0 && (n != hops || hops < 1 || hops > 8) {
					deaf(t, fmt.Sprintf("%d hops, %d nonces", hops, n), masters(hops), 5, nonces(n, 1), c, api.ErrChain)
				}
			}
		}
	}
	deaf(t, "no hops, epoch -1", nil, -1, nil, noughts, api.ErrChain)
}

// P30.1: nonces that aren't those of the cell, and such as are noughts.
func TestHearNonces(t *testing.T) {
	for hops := 1; hops <= 8; hops++ {
		c := answered(hops, 5, 1, "\x01hi")
		for at := range hops {
			deaf(t, fmt.Sprintf("nonce %d of %d is another", at, hops), masters(hops), 5, with(nonces(hops, 1), at, nonces(hops, 2)[at]), c, api.ErrTag)
			deaf(t, fmt.Sprintf("nonce %d of %d is noughts", at, hops), masters(hops), 5, with(nonces(hops, 1), at, [16]byte{}), c, api.ErrTag)
			own := with(nonces(hops, 1), at, [16]byte{})
			checkHear(t, fmt.Sprintf("nonce %d of %d is noughts there and back", at, hops), masters(hops), 5, own, comesBack(hops, hops, 5, own, []byte("\x01ho")), heard{1, "ho", 0})
		}
		none := make([][16]byte, hops)
		checkHear(t, "all nonces noughts", masters(hops), 5, none, comesBack(hops, hops, 5, none, []byte("\x02")), heard{How: 2})
		if hops > 1 {
			other := nonces(hops, 1)
			slices.Reverse(other)
			deaf(t, "the nonces the other way round", masters(hops), 5, other, c, api.ErrTag)
			keys := masters(hops)
			slices.Reverse(keys)
			deaf(t, "the keys the other way round", keys, 5, nonces(hops, 1), c, api.ErrTag)
		}
	}
}

// P30.1: cells of other lengths, of noughts, and such whose layers don't stand: reply.Open's errors, at each hop.
func TestHearWrongCells(t *testing.T) {
	for hops := 1; hops <= 8; hops++ {
		refuses := func(what string, c []byte, e api.Errno) {
			t.Helper()
			deaf(t, fmt.Sprintf("%d hops, %s", hops, what), masters(hops), 5, nonces(hops, 1), c, e)
		}
		whole := answered(hops, 5, 1, "\x01hi")
		for _, n := range []int{0, 1, 82, 319} {
			refuses(fmt.Sprint(n, " bytes"), whole[:n], api.ErrSize)
		}
		refuses("321 bytes", append(slices.Clone(whole), 0), api.ErrSize)
		refuses("two cells", append(slices.Clone(whole), whole...), api.ErrSize)
		refuses("noughts", noughts, api.ErrTag)
		refuses("the cell that went there", []byte(client{1, "room0001", "hi"}.cell(hops, 5)), api.ErrTag)
		for at := range sizes[hops-1] {
			refuses(fmt.Sprintf("byte %d turned", at), turned(whole, at, 1<<(at%8)), api.ErrTag)
		}
		for at := sizes[hops-1]; at < 320; at += 7 {
			refuses(fmt.Sprintf("byte %d turned", at), turned(whole, at, 1<<(at%8)), api.ErrPad)
		}
		for layers := range hops { // so many stand, and what is inside is none
			left := hops - layers
			key, n := backKey(master(layers), 5, nonces(hops, 1)[layers]), nonces(hops, 1)[layers]
			inside := func(p []byte) []byte { return comesBack(hops, layers, 5, nonces(hops, 1), p) }
			refuses(fmt.Sprintf("noughts in %d layers", layers), inside(nil), api.ErrTag)
			refuses(fmt.Sprintf("anything in %d layers", layers), inside(some(sizes[left-1], int64(layers))), api.ErrTag)
			refuses(fmt.Sprintf("no form in %d layers", layers), inside(boxed(key, n, left, numbered(left, sizes[left-1]-33, nil))), api.ErrBox)
			refuses(fmt.Sprintf("bytes behind in %d layers", layers), inside(boxed(key, n, left, numbered(left, 0, []byte{1}))), api.ErrBox)
			if layers > 0 {
				longer := append(some(sizes[left-1], int64(layers)), make([]byte, sizes[left]-34-sizes[left-1])...)
				refuses(fmt.Sprintf("a longer thing in %d layers", layers), inside(longer), api.ErrTag)
			}
		}
	}
}

// P30.1: payloads that are no answer: drop.Answer's error, behind layers that all stand.
func TestHearNoAnswer(t *testing.T) {
	long := string(make([]byte, 40))
	for hops := 1; hops <= 8; hops++ {
		for _, payload := range []string{"", "\x04", "\xff", "\x00\x00", "\x00" + long, "\x02x", "\x03x", "\x02" + long, "\x01" + long + "x", "\x01" + long + "1234567", "room0001hi"} {
			deaf(t, fmt.Sprintf("%d hops, %q", hops, payload), masters(hops), 5, nonces(hops, 1), answered(hops, 5, 1, payload), api.ErrAnswer)
		}
	}
	for b := range 256 {
		want := heard{Err: api.ErrAnswer}
		if b < 4 {
			want = heard{How: b}
		}
		checkHear(t, fmt.Sprintf("the byte %d", b), masters(2), 5, nonces(2, 1), answered(2, 5, 1, string([]byte{byte(b)})), want)
	}
}

// P30.1: one's answer is nothing to another one, who has other nonces or other keys.
func TestHearAnothers(t *testing.T) {
	for hops := 1; hops <= 8; hops++ {
		for k := range 4 {
			c := answered(hops, 5, k, "\x01hi")
			for other := range 4 {
				got := hear(masters(hops), 5, nonces(hops, other), c)
				if want := (heard{Err: api.ErrTag}); other != k && got != want {
					t.Errorf("%d hops, number %d hears what number %d is answered: %+v", hops, other, k, got)
				}
			}
			keys := masters(hops)
			keys[hops-1] = bytes.Repeat([]byte{1}, 32)
			deaf(t, "another last key", keys, 5, nonces(hops, k), c, api.ErrTag)
		}
	}
}
