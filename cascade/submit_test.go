package cascade_test

import (
	"bytes"
	"fmt"
	"math"
	"slices"
	"testing"

	"churn/api"
	"churn/cascade"
	"churn/cell"
	"churn/frame"
	"churn/onion"
	"churn/route"
)

const top = 1 << 62 // the greatest epoch

// wanted: what Submit answers by the chapters' words, layer by layer.
func wanted(masters [][]byte, epoch int64, nonces [][16]byte, payload []byte) ([]byte, api.Errno) {
	for _, m := range masters {
		if len(m) != 32 || epoch < 0 || epoch > top {
			return nil, api.ErrArg
		}
	}
	h := len(masters)
	if h < 1 || h > 8 || len(nonces) != h {
		return nil, api.ErrChain
	}
	if len(payload) > 48 {
		return nil, api.ErrLong
	}
	o := payload
	for i := h - 1; i >= 0; i-- {
		o = must(onion.Wrap(must(route.Key(masters[i], epoch)), nonces[i], h-i, o))
	}
	return cell.Pad(o)
}

// checkSubmit: what Submit answers, held against these words and against an error.
func checkSubmit(t *testing.T, what string, masters [][]byte, epoch int64, nonces [][16]byte, payload []byte, want api.Errno) {
	t.Helper()
	c, e := cascade.Submit(masters, epoch, nonces, payload)
	if e != want || e != api.OK && len(c) != 0 {
		t.Errorf("%s: %d bytes, error %d; want %d", what, len(c), e, want)
	}
	if d, e2 := wanted(masters, epoch, nonces, payload); e != e2 || !bytes.Equal(c, d) {
		t.Errorf("%s: %x, error %d; want %x, %d", what, c, e, d, e2)
	}
}

// with: the master keys with another one at a place.
func with(list [][]byte, at int, m []byte) [][]byte {
	list = slices.Clone(list)
	list[at] = m
	return list
}

// P25.1: Submit for each number of hops and each length of payload, at epochs of all kinds.
func TestSubmit(t *testing.T) {
	for hops := 1; hops <= 8; hops++ {
		for _, epoch := range []int64{0, 1, 5, 256, top - 1, top} {
			checkSubmit(t, fmt.Sprintf("%d hops, epoch %d", hops, epoch), masters(hops), epoch, nonces(hops, 3), payload(3), api.OK)
		}
	}
	for length := range 49 {
		checkSubmit(t, fmt.Sprintf("a payload of %d", length), masters(3), 5, nonces(3, length), some(length, int64(length)), api.OK)
	}
	checkSubmit(t, "the same key and nonce at each hop", slices.Repeat([][]byte{master(0)}, 8), 5, make([][16]byte, 8), make([]byte, 48), api.OK)
}

// P25.1: Submit's cell goes the way of the chain: each hop peels one layer, and behind the last one the payload lies open.
func TestSubmitWalks(t *testing.T) {
	for hops := 1; hops <= 8; hops++ {
		var keys [][]byte
		for _, m := range masters(hops) {
			keys = append(keys, must(route.Key(m, 77)))
		}
		way, e := route.Walk(keys, sent(hops, 77, hops))
		if e != api.OK || len(way) != hops {
			t.Fatalf("%d hops: error %d", hops, e)
		}
		if p, is, e := cell.Open(way[hops-1].Cell); !is || e != api.OK || !bytes.Equal(p, payload(hops)) {
			t.Errorf("%d hops: %q, %v, error %d", hops, p, is, e)
		}
	}
}

// P25.1: route.Key's error: a master key that is too short or too long, at each place, and an epoch outside its range.
func TestSubmitKeyErrors(t *testing.T) {
	for hops := 1; hops <= 8; hops++ {
		for at := range hops {
			for _, length := range []int{0, 1, 31, 33, 64} {
				checkSubmit(t, fmt.Sprintf("key %d of %d has %d bytes", at, hops, length), with(masters(hops), at, make([]byte, length)), 5, nonces(hops, 1), nil, api.ErrArg)
			}
		}
		for _, epoch := range []int64{-1, top + 1, math.MinInt64, math.MaxInt64} {
			checkSubmit(t, fmt.Sprintf("%d hops, epoch %d", hops, epoch), masters(hops), epoch, nonces(hops, 1), nil, api.ErrArg)
		}
	}
}

// P25.1: route.Wrap's errors: no hops and too many, nonces that are too few or too many, a payload that is too long.
func TestSubmitWrapErrors(t *testing.T) {
	for hops := range 12 {
		want := api.OK
		if hops < 1 || hops > 8 {
			want = api.ErrChain
		}
		checkSubmit(t, fmt.Sprint(hops, " hops"), masters(hops), 5, nonces(hops, 1), nil, want)
		for _, n := range []int{0, hops - 1, hops + 1, 2*hops + 1} {
			if n >= 0 && n != hops {
				checkSubmit(t, fmt.Sprintf("%d hops, %d nonces", hops, n), masters(hops), 5, nonces(n, 1), nil, api.ErrChain)
			}
		}
	}
	for _, length := range []int{49, 50, 320, 100000} {
		checkSubmit(t, fmt.Sprint("a payload of ", length), masters(2), 5, nonces(2, 1), make([]byte, length), api.ErrLong)
	}
}

// P25.1: which of Submit's errors comes first: a wrong master key at any place and a wrong epoch ahead of the number of hops, that ahead of a long payload. Without master keys nobody looks at the epoch.
func TestSubmitOrder(t *testing.T) {
	long, short := make([]byte, 49), make([]byte, 31)
	for _, x := range []struct {
		what    string
		masters [][]byte
		epoch   int64
		nonces  [][16]byte
		payload []byte
		want    api.Errno
	}{
		{"all wrong", with(masters(9), 8, short), -1, nil, long, api.ErrArg},
		{"nine keys, the ninth too short", with(masters(9), 8, short), 5, nonces(9, 1), nil, api.ErrArg},
		{"a hundred keys, the last too long", with(masters(100), 99, make([]byte, 33)), 5, nonces(100, 1), long, api.ErrArg},
		{"nine keys, an old epoch", masters(9), -1, nonces(9, 1), nil, api.ErrArg},
		{"a short key, too few nonces", with(masters(2), 1, short), 5, nonces(1, 1), long, api.ErrArg},
		{"a short key, a long payload", with(masters(2), 0, short), 5, nonces(2, 1), long, api.ErrArg},
		{"an epoch too far, a long payload", masters(2), top + 1, nonces(2, 1), long, api.ErrArg},
		{"an epoch too far, too many nonces", masters(2), top + 1, nonces(3, 1), nil, api.ErrArg},
		{"nine keys, a long payload", masters(9), 5, nonces(9, 1), long, api.ErrChain},
		{"too many nonces, a long payload", masters(2), 5, nonces(3, 1), long, api.ErrChain},
		{"no keys", nil, 5, nil, nil, api.ErrChain},
		{"no keys, a wrong epoch", nil, -1, nil, nil, api.ErrChain},
		{"no keys, a wrong epoch, a nonce, a long payload", [][]byte{}, math.MaxInt64, nonces(1, 1), long, api.ErrChain},
		{"a long payload", masters(8), top, nonces(8, 1), long, api.ErrLong},
	} {
		checkSubmit(t, x.what, x.masters, x.epoch, x.nonces, x.payload, x.want)
	}
}

// P25.1: a client of a cascade with any keys, any nonces, any payload; now and then wrong.
func TestSubmitAny(t *testing.T) {
	l := newLot(2501)
	counts := map[api.Errno]int{}
	for n := range fewer(400) {
		hops := l.Intn(10)
		var keys [][]byte
		for range hops {
			keys = append(keys, some(32, l.Int63()))
		}
		if hops > 0 && l.Intn(8) == 0 {
			keys[l.Intn(hops)] = some(l.Intn(40), l.Int63())
		}
		own := make([][16]byte, max(0, hops+l.Intn(12)/11-l.Intn(12)/11))
		for i := range own {
			own[i] = [16]byte(some(16, l.Int63()))
		}
		epoch := int64(l.Uint64()) >> l.Intn(64)
		if l.Intn(4) > 0 {
			epoch = max(0, epoch&top, epoch&(top-1))
		}
		p := some(l.Intn(52), l.Int63())
		_, want := wanted(keys, epoch, own, p)
		checkSubmit(t, fmt.Sprint("number ", n), keys, epoch, own, p, want)
		counts[want]++
	}
	if !testing.Short() && (counts[api.OK] < 60 || counts[api.ErrArg] < 20 || counts[api.ErrChain] < 20 || counts[api.ErrLong] < 3) {
		t.Errorf("the clients are too much alike: %v", counts)
	}
}

// P25.1: Entry is frame.Pack of the header and the cells, at both ends of each range.
func TestEntry(t *testing.T) {
	cells := sentAll(2, 5, 0, 3)
	for _, round := range []int64{0, 1, 8, top - 1} {
		for _, epoch := range []int64{0, 5, top - 1, top} {
			for _, left := range []int{0, 1, 2, 7, 8} {
				for n := range 4 {
					raw, e := cascade.Entry(round, epoch, left, cells[:n])
					b, _, e2 := frame.Read(raw)
					if e != api.OK || e2 != api.OK || b.Header != (api.Header{Round: round, Epoch: epoch, Left: left}) || !slices.EqualFunc(b.Cells, cells[:n], bytes.Equal) {
						t.Errorf("%d, %d, %d, %d cells: errors %d and %d, %+v", round, epoch, left, n, e, e2, b.Header)
					}
					if want := packed(api.Header{Round: round, Epoch: epoch, Left: left}, cells[:n]...); !bytes.Equal(raw, want) {
						t.Errorf("%d, %d, %d, %d cells: other bytes than frame.Pack's", round, epoch, left, n)
					}
				}
			}
		}
	}
	full := slices.Repeat(cells[:1], 256)
	if raw, e := cascade.Entry(1, 2, 3, full); e != api.OK || len(raw) != 24+256*322+4 {
		t.Errorf("a full batch: %d bytes, error %d", len(raw), e)
	}
	if raw, e := cascade.Entry(1, 2, 3, nil); e != api.OK || len(raw) != 28 {
		t.Errorf("no cells: %d bytes, error %d", len(raw), e)
	}
}

// P25.1: the errors of frame.Pack, and which of them comes first.
func TestEntryErrors(t *testing.T) {
	good, bad := make([]byte, 320), make([]byte, 319)
	many := slices.Repeat([][]byte{good}, 257)
	for _, x := range []struct {
		what         string
		round, epoch int64
		left         int
		cells        [][]byte
		want         api.Errno
	}{
		{"Round -1", -1, 0, 0, nil, api.ErrHeader},
		{"the least Round", math.MinInt64, 0, 0, nil, api.ErrHeader},
		{"Round 2^62", top, 0, 0, nil, api.ErrHeader},
		{"the greatest Round", math.MaxInt64, 0, 0, nil, api.ErrHeader},
		{"Epoch -1", 0, -1, 0, nil, api.ErrHeader},
		{"Epoch 2^62 + 1", 0, top + 1, 0, nil, api.ErrHeader},
		{"the least Epoch", 0, math.MinInt64, 0, nil, api.ErrHeader},
		{"the greatest Epoch", 0, math.MaxInt64, 0, nil, api.ErrHeader},
		{"Left -1", 0, 0, -1, nil, api.ErrHeader},
		{"Left 9", 0, 0, 9, nil, api.ErrHeader},
		{"Left 256", 0, 0, 256, nil, api.ErrHeader},
		{"the least Left", 0, 0, math.MinInt, nil, api.ErrHeader},
		{"the greatest Left", 0, 0, math.MaxInt, nil, api.ErrHeader},
		{"257 cells", 0, 0, 0, many, api.ErrCount},
		{"a cell of 319", 0, 0, 0, [][]byte{good, bad}, api.ErrCell},
		{"a cell of 321", 0, 0, 0, [][]byte{make([]byte, 321), good}, api.ErrCell},
		{"a cell of none", 0, 0, 0, [][]byte{good, nil, good}, api.ErrCell},
		{"a header and 257 cells", 0, -1, 0, many, api.ErrHeader},
		{"a header and a cell", 0, 0, 9, [][]byte{bad}, api.ErrHeader},
		{"257 cells, one of 319", 0, 0, 0, append([][]byte{bad}, many[1:]...), api.ErrCount},
		{"256 cells, the last of 319", 0, 0, 0, append(slices.Clone(many[:255]), bad), api.ErrCell},
	} {
		if raw, e := cascade.Entry(x.round, x.epoch, x.left, x.cells); e != x.want || len(raw) != 0 {
			t.Errorf("%s: %d bytes, error %d; want %d", x.what, len(raw), e, x.want)
		}
	}
}
