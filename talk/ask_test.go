package talk_test

import (
	"fmt"
	"math"
	"slices"
	"testing"

	"churn/api"
	"churn/cascade"
	"churn/cell"
	"churn/drop"
	"churn/route"
)

// checkAsk: what Ask answers, held against the words and against an error.
func checkAsk(t *testing.T, what string, masters [][]byte, epoch int64, nonces [][16]byte, name, message string, want api.Errno) {
	t.Helper()
	got := ask(masters, epoch, nonces, name, message)
	if got.Err != want || (want == api.OK) != (len(got.Cell) == 320) || want != api.OK && len(got.Cell) != 0 {
		t.Errorf("%s: %d bytes, error %d; want %d", what, len(got.Cell), got.Err, want)
	}
	if words := definedAsk(masters, epoch, nonces, name, message); got != words {
		t.Errorf("%s: %.16x, error %d; want %.16x, %d", what, got.Cell, got.Err, words.Cell, words.Err)
	}
}

// with: the list with another thing at a place.
func with[T any](list []T, at int, x T) []T {
	list = slices.Clone(list)
	list[at] = x
	return list
}

// names are drops' names of any bytes.
var names = []string{"room0001", "\x00\x00\x00\x00\x00\x00\x00\x00", "\xff\xff\xff\xff\xff\xff\xff\xff", "\x00room\x00\x01\xff", "\x80\xfe\xc3\x28 \n\r\t", "        "}

// messages are messages of 0, 1 and more bytes up to the most, of any bytes.
func messages() []string {
	return []string{"", "h", "\x00", "\xff", "hi", string(make([]byte, 39)), string(some(39, 3000)), string(make([]byte, 40)), string(some(40, 3001))}
}

// P30.1: Ask for paths of one server up to the longest one, at epochs of all kinds, with names and messages of all kinds.
func TestAsk(t *testing.T) {
	for hops := 1; hops <= 8; hops++ {
		for _, epoch := range []int64{0, 1, 5, 256, top - 1, top} {
			checkAsk(t, fmt.Sprintf("%d hops, epoch %d", hops, epoch), masters(hops), epoch, nonces(hops, 3), "room0001", "hi", api.OK)
		}
		for _, name := range names {
			for _, message := range messages() {
				checkAsk(t, fmt.Sprintf("%d hops, %q at %q", hops, message, name), masters(hops), 5, nonces(hops, 3), name, message, api.OK)
			}
		}
	}
	for length := range 41 {
		checkAsk(t, fmt.Sprint("a message of ", length), masters(3), 5, nonces(3, length), "room0001", string(some(length, int64(length))), api.OK)
	}
	checkAsk(t, "nonces of noughts, one key at each hop", slices.Repeat([][]byte{master(0)}, 8), 5, make([][16]byte, 8), "room0001", "hi", api.OK)
}

// P30.1: what Ask answers is Submit's cell of drop.Request's payload: each hop peels one layer, and behind the last one the name and the message lie open.
func TestAskIsSubmitOfTheRequest(t *testing.T) {
	for hops := 1; hops <= 8; hops++ {
		for i, name := range names {
			message := some(5*hops, int64(i))
			c := []byte(ask(masters(hops), 77, nonces(hops, i), name, string(message)).Cell)
			request := must(drop.Request([8]byte([]byte(name)), message))
			if want := must(cascade.Submit(masters(hops), 77, nonces(hops, i), request)); !slices.Equal(c, want) {
				t.Errorf("%d hops: %.16x; Submit answers %.16x", hops, c, want)
			}
			var keys [][]byte
			for _, m := range masters(hops) {
				keys = append(keys, must(route.Key(m, 77)))
			}
			walked := must(route.Walk(keys, c))
			payload, is, e := cell.Open(walked[hops-1].Cell)
			if string(payload) != name+string(message) || !is || e != api.OK {
				t.Errorf("%d hops: %q, %v, error %d", hops, payload, is, e)
			}
		}
	}
}

// P30.1: the error of Request: a message that is longer than the limit, on whatever path.
func TestAskTooLong(t *testing.T) {
	for hops := 1; hops <= 8; hops++ {
		for _, length := range []int{41, 42, 48, 49, 320, 100000} {
			checkAsk(t, fmt.Sprintf("%d hops, a message of %d", hops, length), masters(hops), 5, nonces(hops, 1), "room0001", string(make([]byte, length)), api.ErrLong)
		}
	}
}

// P30.1: the errors of Submit: master keys of other lengths at each place, epochs outside their range, paths that are none, nonces that are too few or too many.
func TestAskNoPath(t *testing.T) {
	for hops := range 12 {
		for at := range hops {
			for _, length := range []int{0, 1, 31, 33, 64} {
				checkAsk(t, fmt.Sprintf("key %d of %d has %d bytes", at, hops, length), with(masters(hops), at, make([]byte, length)), 5, nonces(hops, 1), "room0001", "hi", api.ErrArg)
			}
		}
		want := api.OK
		if hops < 1 || hops > 8 {
			want = api.ErrChain
		}
		checkAsk(t, fmt.Sprint(hops, " hops"), masters(hops), 5, nonces(hops, 1), "room0001", "hi", want)
		for _, n := range []int{0, hops - 1, hops + 1, 2*hops + 1} {
			if n >= 0 && n != hops {
				checkAsk(t, fmt.Sprintf("%d hops, %d nonces", hops, n), masters(hops), 5, nonces(n, 1), "room0001", "hi", api.ErrChain)
			}
		}
	}
	for hops := 1; hops <= 9; hops++ {
		for _, epoch := range []int64{-1, top + 1, math.MinInt64, math.MaxInt64} {
			checkAsk(t, fmt.Sprintf("%d hops, epoch %d", hops, epoch), masters(hops), epoch, nonces(hops, 1), "room0001", "hi", api.ErrArg)
		}
	}
}

// P30.1: which of Ask's errors comes first: the message's length; then the keys and the epoch; then how many there are.
func TestAskOrder(t *testing.T) {
	long := string(make([]byte, 41))
	short := with(masters(2), 1, make([]byte, 31))
	for _, x := range []struct {
		what    string
		masters [][]byte
		epoch   int64
		nonces  int
		message string
		want    api.Errno
	}{
		{"too long, a short key", short, 5, 2, long, api.ErrLong},
		{"too long, epoch -1", masters(2), -1, 2, long, api.ErrLong},
		{"too long, no hops", nil, 5, 0, long, api.ErrLong},
		{"too long, nine hops", masters(9), 5, 9, long, api.ErrLong},
		{"too long, a nonce too many", masters(2), 5, 3, long, api.ErrLong},
		{"too long, and all else", with(masters(9), 8, nil), -1, 0, long, api.ErrLong},
		{"a short key, a nonce too few", short, 5, 1, "hi", api.ErrArg},
		{"the ninth key is short", with(masters(9), 8, nil), 5, 9, "hi", api.ErrArg},
		{"epoch -1, nine hops", masters(9), -1, 9, "hi", api.ErrArg},
		{"epoch -1, no hops", nil, -1, 0, "hi", api.ErrChain}, // no key to be made of it
		{"a short key, epoch -1", short, -1, 2, "hi", api.ErrArg},
		{"no hops, a nonce", nil, 5, 1, "hi", api.ErrChain},
	} {
		checkAsk(t, x.what, x.masters, x.epoch, nonces(x.nonces, 1), "room0001", x.message, x.want)
	}
}
