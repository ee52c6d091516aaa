package onion_test

import (
	"bytes"
	"encoding/hex"
	"fmt"
	"math"
	"math/rand"
	"slices"
	"sync"
	"testing"

	"churn/api"
	"churn/cell"
	"churn/mac"
	"churn/onion"
)

// P7.1: the chapter's examples.
func TestExamples(t *testing.T) {
	for left, want := range map[int]int{1: 82, 2: 116, 8: 320, 0: 0, 9: 0} {
		if n := onion.Size(left); n != want {
			t.Errorf("Size(%d) is %d", left, n)
		}
	}
	key, nonce := make([]byte, 32), [16]byte{}
	one := wrap(key, nonce, 1, nil)
	if len(one.List) != 82 || one.Err != api.OK {
		t.Errorf("Wrap of no bytes: %v", one)
	}
	checkWrap(t, "Wrap of 49 bytes with 1 left", wrap(key, nonce, 1, make([]byte, 49)), refusedWrap(api.ErrLong))
	if two := wrap(key, nonce, 2, make([]byte, 82)); len(two.List) != 116 || two.Err != api.OK {
		t.Errorf("Wrap of 82 bytes with 2 left: %v", two)
	}
	checkPeel(t, "a cell of 319 bytes", peel(key, 1, cellOf(one.List)[:319]), refusedPeel(api.ErrSize))
	checkPeel(t, "the last byte 1", peel(key, 1, with(cellOf(one.List), 319, 1)), refusedPeel(api.ErrPad))
	for left := range 8 {
		checkPeel(t, "a cell of noughts", peel(key, left+1, make([]byte, 320)), refusedPeel(api.ErrTag))
	}
	for a := range 8 {
		c := cellOf(onionOf(t, key, nonce, a+1, nil))
		for b := range 8 {
			got := peel(key, b+1, c)
			if a == b && got.Err != api.OK || a != b && got.Err != api.ErrPad && got.Err != api.ErrTag {
				t.Errorf("wrapped for %d, peeled with %d: %v", a+1, b+1, got)
			}
		}
	}
}

// P7.1: DOC.md's first example of the whole: 150 bytes with 3 hops left and 170 noughts; peeled, 116 bytes and 204 noughts.
func TestExampleOfTheWhole(t *testing.T) {
	second := onionOf(t, keyOf(2), nonceOf(2), 2, some(82, 3))
	third := onionOf(t, keyOf(3), nonceOf(3), 3, second)
	if len(third) != 150 || len(second) != 116 {
		t.Errorf("%d bytes with 3 hops left, %d with 2", len(third), len(second))
	}
	got := peel(keyOf(3), 3, join(third, make([]byte, 170)))
	if got.Err != api.OK || !bytes.Equal(got.Cell, join(second, make([]byte, 204))) {
		t.Errorf("peeled: %v", got)
	}
}

// P7.1: onions whose bytes were reckoned by another program, from the form's words.
func TestKnownOnions(t *testing.T) {
	counted := make([]byte, 512)
	for i := range counted {
		counted[i] = byte(i)
	}
	for _, c := range []struct {
		key               []byte
		nonce             []byte
		left              int
		inner             []byte
		box, mac, replays string
		onion, replay     string
	}{
		{
			make([]byte, 32), make([]byte, 16), 1, nil,
			"c59278da7dda9b947c2eb0d3552d2e1c",
			"5a35d835496efe4b9831ca06976c730cecc8413c5d6d808a39552978d7f7c573",
			"88fce70e201cef414514c8d02465e1850828905e94764e92d1ab6d65b4b048f8",
			"00000000000000000000000000000000cd2aacb346a46aa404050e62bd2967dedfd09febca71a9a7aadc65655ae9cd43f6a20601d7dc62eac2d62b9ef063bdebe40a7dde1b507c6697994ff7428e69168b50",
			"2a65ff628a99853c54d6a5eee7c5c220",
		},
		{
			counted[:32], counted[0xf0:0x100], 2, []byte("hi"),
			"5bd3023542cdc8ddeac9e049d5b9332b",
			"ac0c476c9967784fc4d60aaecf0cd406fc3d8b8dad4bb9116faca71a695ad820",
			"79d5464437588cc84737e254651266c27b241230d888a4d764cf851b90447e5f",
			"f0f1f2f3f4f5f6f7f8f9fafbfcfdfeffef26dfb64c991348854a49cfdc0f825ec020b5f0976b31a3ef0fa82f891c023eaac960a169896395d645fd1a6642d07abe4ce4e1ab63ed7a13a767e8d4e43609310f07d1237f4e280c863934dd93826cbf25c00e14731cc3374b64285f442a8f29cc9652",
			"275f9901c669bc29324c50dd3957d13e",
		},
	} {
		keys, e := onion.Derive(c.key, [16]byte(c.nonce))
		if hex.EncodeToString(keys.Box[:]) != c.box || hex.EncodeToString(keys.Mac[:]) != c.mac || hex.EncodeToString(keys.Replay[:]) != c.replays || e != api.OK {
			t.Errorf("Derive: %x, %x, %x, error %d", keys.Box, keys.Mac, keys.Replay, e)
		}
		o := wrap(c.key, [16]byte(c.nonce), c.left, c.inner)
		if hex.EncodeToString(o.List) != c.onion || o.Err != api.OK {
			t.Errorf("Wrap: %v", o)
		}
		raw, _ := hex.DecodeString(c.onion)
		got := peel(c.key, c.left, cellOf(raw))
		checkPeel(t, "Peel", got, taken(c.key, c.left, raw, c.inner))
		if hex.EncodeToString(got.Replay[:]) != c.replay {
			t.Errorf("the replay tag is %x", got.Replay)
		}
	}
}

// P7.1: the errors' numbers are those that the chapter gives.
func TestNumbersOfErrors(t *testing.T) {
	key, nonce := keyOf(1), nonceOf(1)
	o := onionOf(t, key, nonce, 1, nil)
	_, noKey := onion.Derive(nil, nonce)
	for _, c := range []struct {
		got  api.Errno
		want int
	}{
		{noKey, 2},
		{wrap(nil, nonce, 1, nil).Err, 2},
		{wrap(key, nonce, 0, nil).Err, 2},
		{wrap(key, nonce, 1, make([]byte, 49)).Err, 1},
		{wrap(key, nonce, 1, make([]byte, 48)).Err, 0},
		{peel(nil, 1, cellOf(o)).Err, 2},
		{peel(key, 9, cellOf(o)).Err, 2},
		{peel(key, 1, o).Err, 50},
		{peel(key, 1, with(cellOf(o), 82, 1)).Err, 51},
		{peel(key, 1, with(cellOf(o), 81, o[81]^1)).Err, 70},
		{peel(key, 1, cellOf(sealed(key, nonce, 1, numbered(1, 49, nil)))).Err, 71},
		{peel(key, 1, cellOf(o)).Err, 0},
	} {
		if c.got != api.Errno(c.want) {
			t.Errorf("error %d where %d belongs", c.got, c.want)
		}
	}
}

// P7.1: Derive's keys are the 80 bytes of mac.Derive, cut; they hang on each byte of the key and of the nonce.
func TestDerive(t *testing.T) {
	seen := map[api.OnionKeys]int{}
	try := func(key []byte, nonce [16]byte) {
		t.Helper()
		got, e := onion.Derive(key, nonce)
		p, _ := mac.Derive(key, nonce[:], []byte("churn"), 80)
		if !bytes.Equal(join(got.Box[:], got.Mac[:], got.Replay[:]), p) || got != definedKeys(key, nonce[:]) || e != api.OK {
			t.Errorf("Derive(%x, %x): %x, error %d; want %x", key, nonce, got, e, p)
		}
		seen[got]++
	}
	try(make([]byte, 32), [16]byte{})
	for at := range 32 {
		try(with(make([]byte, 32), at, 1<<(at%8)), [16]byte{})
	}
	for at := range 16 {
		try(make([]byte, 32), [16]byte(with(make([]byte, 16), at, 1<<(at%8))))
	}
	try(bytes.Repeat([]byte{255}, 32), [16]byte(bytes.Repeat([]byte{255}, 16)))
	for i := range 50 {
		try(keyOf(byte(i+1)), nonceOf(byte(i+2)))
	}
	if len(seen) != 1+32+16+1+50 {
		t.Errorf("only %d keys are not the same", len(seen))
	}
}

// P7.1 and rule 3: keys that haven't 32 bytes give no keys.
func TestDeriveOfWrongKeys(t *testing.T) {
	for _, key := range wrongKeys() {
		for _, nonce := range [][16]byte{{}, nonceOf(1)} {
			if keys, e := onion.Derive(key, nonce); keys != (api.OnionKeys{}) || e != api.ErrArg {
				t.Errorf("a key of %d bytes: %x, error %d", len(key), keys, e)
			}
		}
	}
}

// P7.1: Size, inside its range and outside, at both ends of an int too.
func TestSize(t *testing.T) {
	for i, want := range sizes {
		if n := onion.Size(i + 1); n != want || n != 82+34*i {
			t.Errorf("Size(%d) is %d", i+1, n)
		}
	}
	for _, left := range wrongLefts {
		if n := onion.Size(left); n != 0 {
			t.Errorf("Size(%d) is %d", left, n)
		}
	}
	for left := -2000; left <= 2000; left++ {
		if n := onion.Size(left); n != 0 && !isLeft(left) {
			t.Errorf("Size(%d) is %d", left, n)
		}
	}
	if onion.Size(1)-34 != api.MaxPayload || onion.Size(api.MaxHops) != api.CellSize {
		t.Error("the least onion has no payload's room, or the greatest isn't a cell")
	}
}

// inners: lists of n bytes that a mistake about noughts or heads would mix up.
func inners(n int) [][]byte {
	return [][]byte{some(n, 5), make([]byte, n), bytes.Repeat([]byte{0xff}, n), bytes.Repeat([]byte{1}, n), append(some(n/2, 6), make([]byte, n-n/2)...), append(make([]byte, n-n/2), some(n/2, 6)...)}
}

// P7.1, P7.2: inner of every length up to past the room, at each left: the onion by its words, and back again.
func TestEveryLength(t *testing.T) {
	for left := 1; left <= 8; left++ {
		key, nonce := keyOf(byte(left)), nonceOf(byte(left+8))
		for n := range roomOf(left) + 3 {
			inner := some(n, byte(n))
			what := fmt.Sprintf("%d bytes with %d left", n, left)
			got := wrap(key, nonce, left, inner)
			checkWrap(t, "Wrap of "+what, got, definedWrap(key, nonce, left, inner))
			if n > roomOf(left) {
				checkWrap(t, "Wrap of "+what, got, refusedWrap(api.ErrLong))
				continue
			}
			checkPeel(t, "there and back: "+what, peel(key, left, cellOf(got.List)), taken(key, left, got.List, inner))
		}
	}
}

// P7.2: there and back, over cell's own calls: each left, no bytes, one, the room and about it, bytes of all kinds.
func TestThereAndBack(t *testing.T) {
	for left := 1; left <= 8; left++ {
		room := roomOf(left)
		if room != onion.Size(left)-34 || left > 1 && room != onion.Size(left-1) || left == 1 && room != 48 {
			t.Fatalf("the room with %d left is %d", left, room)
		}
		for _, n := range []int{0, 1, 2, 47, 48, room - 1, room} {
			for i, inner := range inners(n) {
				key, nonce := keyOf(byte(7*left+i)), nonceOf(byte(n+i))
				o, e := onion.Wrap(key, nonce, left, inner)
				c, f := cell.Pad(o)
				if e != api.OK || f != api.OK {
					t.Fatalf("Wrap of %d bytes with %d left: error %d; Pad: error %d", n, left, e, f)
				}
				want, f := cell.Pad(inner)
				if left == 1 {
					want, f = cell.Plain(inner)
				}
				got, e := onion.Peel(key, left, c)
				if e != api.OK || f != api.OK || !bytes.Equal(got.Cell, want) {
					t.Errorf("%d bytes with %d left: %.60x, error %d; want %.60x", n, left, got.Cell, e, want)
				}
			}
		}
	}
}

// P7.2: keys and nonces of noughts, of one bit, and of all bits.
func TestThereAndBackOfEdges(t *testing.T) {
	keys := [][]byte{make([]byte, 32), bytes.Repeat([]byte{255}, 32), with(make([]byte, 32), 0, 128), with(make([]byte, 32), 31, 1)}
	nonces := [][16]byte{{}, [16]byte(bytes.Repeat([]byte{255}, 16)), {128}, {15: 1}}
	for _, key := range keys {
		for _, nonce := range nonces {
			for left := 1; left <= 8; left++ {
				inner := some(roomOf(left), 9)
				o := wrap(key, nonce, left, inner)
				checkWrap(t, "Wrap", o, definedWrap(key, nonce, left, inner))
				checkPeel(t, "Peel", peel(key, left, cellOf(o.List)), taken(key, left, o.List, inner))
			}
		}
	}
}

// P7.1, P7.2: arguments without a rule.
func TestAnyArguments(t *testing.T) {
	r := rand.New(rand.NewSource(71))
	for range 2000 {
		key, nonce, left := make([]byte, 32), [16]byte{}, 1+r.Intn(8)
		r.Read(key)
		r.Read(nonce[:])
		inner := make([]byte, r.Intn(roomOf(left)+1))
		r.Read(inner)
		o := wrap(key, nonce, left, inner)
		checkWrap(t, "Wrap", o, definedWrap(key, nonce, left, inner))
		checkPeel(t, "Peel", peel(key, left, cellOf(o.List)), taken(key, left, o.List, inner))
	}
}

// P7.1: the form of what Wrap answers, part by part.
func TestForm(t *testing.T) {
	for left := 1; left <= 8; left++ {
		for _, n := range []int{0, 1, 48, roomOf(left) / 2, roomOf(left)} {
			key, nonce, inner := keyOf(byte(n+1)), nonceOf(byte(left)), some(n, 11)
			o := onionOf(t, key, nonce, left, inner)
			keys, _ := onion.Derive(key, nonce)
			box := o[32:]
			if [16]byte(o[:16]) != nonce {
				t.Errorf("%d left: the nonce is %x", left, o[:16])
			}
			if want := tagged(keys.Mac, []byte{byte(left)}, nonce[:], box); !bytes.Equal(o[16:32], want) {
				t.Errorf("%d left: the tag is %x; want %x", left, o[16:32], want)
			}
			plain := masked(keys.Box, box)
			if len(plain) != 50+34*(left-1) || int(plain[0]) != n/256 || int(plain[1]) != n%256 || !bytes.Equal(plain[2:2+n], inner) || !onlyNoughts(plain[2+n:]) {
				t.Errorf("%d left, %d bytes: the plain box is %x", left, n, plain)
			}
		}
	}
}

// P7.1 and rule 4: nil and empty are one and the same, and the room behind an empty list isn't read.
func TestNilIsEmpty(t *testing.T) {
	key, nonce := keyOf(1), nonceOf(1)
	for left := 1; left <= 8; left++ {
		want := definedWrap(key, nonce, left, nil)
		for _, inner := range [][]byte{nil, {}, make([]byte, 0, 500), some(320, 6)[:0]} {
			checkWrap(t, "Wrap of nothing", wrap(key, nonce, left, inner), want)
		}
		for _, c := range [][]byte{nil, {}, cellOf(want.List)[:0]} {
			checkPeel(t, "Peel of nothing", peel(key, left, c), refusedPeel(api.ErrSize))
		}
	}
}

// P7.1 and rule 2: Wrap's errors, and the first of them where arguments meet more than one.
func TestErrorsOfWrap(t *testing.T) {
	key, nonce := keyOf(1), nonceOf(1)
	lists := [][]byte{nil, some(1, 2), some(48, 2), some(49, 2), some(286, 2), some(287, 2), some(320, 2), make([]byte, 65536), some(65536+48, 2)}
	for _, inner := range lists {
		for _, wrong := range wrongKeys() {
			for _, left := range append([]int{1, 2, 8}, wrongLefts...) {
				checkWrap(t, fmt.Sprintf("a key of %d bytes, %d left, %d inside", len(wrong), left, len(inner)), wrap(wrong, nonce, left, inner), refusedWrap(api.ErrArg))
			}
		}
		for _, left := range wrongLefts {
			checkWrap(t, fmt.Sprintf("%d left, %d inside", left, len(inner)), wrap(key, nonce, left, inner), refusedWrap(api.ErrArg))
		}
		for left := 1; left <= 8; left++ {
			checkWrap(t, fmt.Sprintf("%d left, %d inside", left, len(inner)), wrap(key, nonce, left, inner), definedWrap(key, nonce, left, inner))
		}
	}
	for left := 1; left <= 8; left++ {
		for _, n := range []int{1, 2, 34, 256, 65536 - roomOf(left), 65536, 1 << 20} {
			checkWrap(t, fmt.Sprintf("%d past the room, %d left", n, left), wrap(key, nonce, left, make([]byte, roomOf(left)+n)), refusedWrap(api.ErrLong))
		}
	}
}

// P7.1 and rule 2: Peel's first errors: a wrong key or left, whatever the cell is.
func TestWrongKeyOrLeft(t *testing.T) {
	key, nonce := keyOf(1), nonceOf(1)
	good := cellOf(onionOf(t, key, nonce, 2, some(9, 1)))
	cells := [][]byte{nil, good[:319], append(bytes.Clone(good), 0), good, make([]byte, 320), some(320, 1), with(good, 319, 1), with(good, 0, 0), cellOf(sealed(key, nonce, 2, numbered(2, 83, nil)))}
	for i, c := range cells {
		for _, wrong := range wrongKeys() {
			for _, left := range []int{math.MinInt, -1, 0, 1, 2, 8, 9, math.MaxInt} {
				checkPeel(t, fmt.Sprintf("cell %d, a key of %d bytes, %d left", i, len(wrong), left), peel(wrong, left, c), refusedPeel(api.ErrArg))
			}
		}
		for _, left := range wrongLefts {
			checkPeel(t, fmt.Sprintf("cell %d, %d left", i, left), peel(key, left, c), refusedPeel(api.ErrArg))
		}
	}
	checkPeel(t, "the cell itself", peel(key, 2, good), taken(key, 2, good, some(9, 1)))
}

// P7.1 and rule 2: cells of another size, ahead of every fault of their bytes; an onion by itself is none either.
func TestWrongSize(t *testing.T) {
	key, nonce := keyOf(1), nonceOf(1)
	for left := 1; left <= 8; left++ {
		o := onionOf(t, key, nonce, left, some(9, 1))
		good := cellOf(o)
		for n := range 320 {
			checkPeel(t, fmt.Sprintf("%d left, %d bytes", left, n), peel(key, left, good[:n]), refusedPeel(api.ErrSize))
		}
		for _, more := range []int{1, 2, 16, 34, 256, 320, 65536} {
			what := fmt.Sprintf("%d left, %d bytes more", left, more)
			checkPeel(t, what, peel(key, left, join(good, make([]byte, more))), refusedPeel(api.ErrSize))
			checkPeel(t, what, peel(key, left, join(good, some(more, 1))), refusedPeel(api.ErrSize))
			checkPeel(t, what, peel(key, left, some(320+more, 1)), refusedPeel(api.ErrSize))
		}
		if left < 8 {
			checkPeel(t, "an onion without its noughts", peel(key, left, o), refusedPeel(api.ErrSize))
		}
		checkPeel(t, "319 bytes without a rule", peel(key, left, some(319, 1)), refusedPeel(api.ErrSize))
	}
}

// P7.1 and rule 2: a byte behind the onion that isn't 0, at each place, ahead of a wrong tag and a wrong box.
func TestByteBehindTheOnion(t *testing.T) {
	key, nonce := keyOf(1), nonceOf(1)
	for left := 1; left <= 7; left++ {
		good := cellOf(onionOf(t, key, nonce, left, some(48, 1)))
		badTag := with(good, 20, good[20]^1)
		badBox := cellOf(sealed(key, nonce, left, numbered(left, 0xffff, nil)))
		for at := sizes[left-1]; at < 320; at++ {
			for i, c := range [][]byte{good, badTag, badBox, make([]byte, 320)} {
				what := fmt.Sprintf("cell %d, %d left, the byte at %d", i, left, at)
				checkPeel(t, what, peel(key, left, with(c, at, 1<<(at%8))), refusedPeel(api.ErrPad))
			}
		}
	}
}

// P7.1, P7.3: each byte of nonce, tag and box turned, at each left: ErrTag, and nothing beside it.
func TestTurnedBytes(t *testing.T) {
	for left := 1; left <= 8; left++ {
		key, inner := keyOf(byte(left)), some(roomOf(left)/2, 1)
		good := cellOf(onionOf(t, key, nonceOf(3), left, inner))
		for at := range sizes[left-1] {
			for bit := range 8 {
				what := fmt.Sprintf("%d left, bit %d of byte %d", left, bit, at)
				checkPeel(t, what, peel(key, left, with(good, at, good[at]^1<<bit)), refusedPeel(api.ErrTag))
			}
		}
		checkPeel(t, "the cell itself", peel(key, left, good), taken(key, left, good, inner))
	}
}

// P7.1: a tag that is right but for what it covers: another left, another nonce, another order, more or fewer bytes, the replay's key.
func TestTagsThatDoNotFit(t *testing.T) {
	for left := 1; left <= 8; left++ {
		key, nonce := keyOf(4), nonceOf(4)
		keys := definedKeys(key, nonce[:])
		r := []byte{byte(left)}
		box := masked(keys.Box, numbered(left, 3, []byte("abc")))
		other := nonceOf(5)
		right := tagged(keys.Mac, r, nonce[:], box)
		for what, tag := range map[string][]byte{
			"without the left":   tagged(keys.Mac, nonce[:], box),
			"without the nonce":  tagged(keys.Mac, r, box),
			"without the box":    tagged(keys.Mac, r, nonce[:]),
			"another left":       tagged(keys.Mac, []byte{byte(left%8 + 1)}, nonce[:], box),
			"another nonce":      tagged(keys.Mac, r, other[:], box),
			"the plain box":      tagged(keys.Mac, r, nonce[:], masked(keys.Box, box)),
			"the cell's noughts": tagged(keys.Mac, r, nonce[:], box, []byte{0}),
			"the nonce last":     tagged(keys.Mac, r, box, nonce[:]),
			"the replay's key":   tagged(keys.Replay, r, nonce[:], box),
			"the hop's key":      tagged([32]byte(key), r, nonce[:], box),
			"noughts":            make([]byte, 16),
			"turned about":       append(bytes.Clone(right[8:]), right[:8]...),
			"half of it":         filled(16, right[:8]),
			"all but one byte":   filled(16, right[:15]),
		} {
			checkPeel(t, fmt.Sprintf("%d left, a tag of %s", left, what), peel(key, left, cellOf(nonce[:], tag, box)), refusedPeel(api.ErrTag))
		}
		c := cellOf(nonce[:], right, box)
		checkPeel(t, "the right tag", peel(key, left, c), taken(key, left, c, []byte("abc")))
	}
}

// P7.1: plain boxes made by hand with each number about the room, and with numbers far above it, with a tag that fits.
func TestNumbersInTheBox(t *testing.T) {
	key, nonce := keyOf(6), nonceOf(6)
	for left := 1; left <= 8; left++ {
		room := roomOf(left)
		numbers := []int{255, 256, 257, 256 + room, 256 * room, 256*room + 255, 0x0101, 0x0180, 0x7fff, 0x8000, 0x8001, 0xff00, 0xfffe, 0xffff, 0x100 * 48, 0x100 * 30}
		for n := range room + 40 {
			numbers = append(numbers, n)
		}
		for _, n := range numbers {
			for i, p := range [][]byte{nil, some(min(n, room), 1), some(room, 1)} {
				plain := numbered(left, n, p)
				c := cellOf(sealed(key, nonce, left, plain))
				got, what := peel(key, left, c), fmt.Sprintf("%d left, the number %d, box %d", left, n, i)
				checkPeel(t, what, got, definedPeel(key, left, c))
				if n > room || len(p) > n {
					checkPeel(t, what, got, refusedPeel(api.ErrBox))
				} else {
					checkPeel(t, what, got, taken(key, left, c, plain[2:2+n]))
				}
			}
		}
	}
}

// P7.1, P7.3: a byte behind the inner bytes that isn't 0, at each place, with a tag that fits: ErrBox.
func TestByteBehindTheInnerBytes(t *testing.T) {
	key, nonce := keyOf(7), nonceOf(7)
	for left := 1; left <= 8; left++ {
		room := roomOf(left)
		for _, n := range []int{0, 1, room / 2, room - 1} {
			inner := some(n, 2)
			for at := 2 + n; at < 2+room; at++ {
				plain := with(numbered(left, n, inner), at, 1<<(at%8))
				c := cellOf(sealed(key, nonce, left, plain))
				checkPeel(t, fmt.Sprintf("%d left, %d inside, the byte at %d", left, n, at), peel(key, left, c), refusedPeel(api.ErrBox))
			}
			c := cellOf(sealed(key, nonce, left, numbered(left, n, inner)))
			checkPeel(t, fmt.Sprintf("%d left, %d inside, noughts", left, n), peel(key, left, c), taken(key, left, c, inner))
		}
	}
}

// P7.1 and rule 2: a wrong tag about a wrong box is a wrong tag.
func TestTagAheadOfBox(t *testing.T) {
	key, nonce := keyOf(8), nonceOf(8)
	for left := 1; left <= 8; left++ {
		for _, plain := range [][]byte{numbered(left, roomOf(left)+1, nil), numbered(left, 0xffff, nil), numbered(left, 0, some(1, 1))} {
			c := cellOf(sealed(key, nonce, left, plain))
			checkPeel(t, "the tag fits", peel(key, left, c), refusedPeel(api.ErrBox))
			for at := 16; at < 32; at++ {
				checkPeel(t, fmt.Sprintf("%d left, byte %d of the tag turned", left, at-16), peel(key, left, with(c, at, c[at]^128)), refusedPeel(api.ErrTag))
			}
		}
	}
}

// P7.1: under another key, one bit away or far off, an onion isn't taken.
func TestAnotherKey(t *testing.T) {
	for left := 1; left <= 8; left++ {
		key := keyOf(9)
		c := cellOf(onionOf(t, key, nonceOf(9), left, some(20, 1)))
		for at := range 32 {
			for bit := range 8 {
				checkPeel(t, fmt.Sprintf("%d left, bit %d of key byte %d", left, bit, at), peel(with(key, at, key[at]^1<<bit), left, c), refusedPeel(api.ErrTag))
			}
		}
		checkPeel(t, "a key of noughts", peel(make([]byte, 32), left, c), refusedPeel(api.ErrTag))
		checkPeel(t, "the key backwards", peel(backwards(key), left, c), refusedPeel(api.ErrTag))
	}
}

func backwards(p []byte) []byte {
	p = bytes.Clone(p)
	slices.Reverse(p)
	return p
}

// P7.1: with another left than the onion was wrapped for: ErrPad where it is longer than told, else ErrTag; where noughts stand at its end too.
func TestAnotherLeft(t *testing.T) {
	key, nonce := keyOf(10), nonceOf(10)
	for a := 1; a <= 8; a++ {
		c := cellOf(onionOf(t, key, nonce, a, some(roomOf(a), 1)))
		for b := 1; b <= 8; b++ {
			want := refusedPeel(api.ErrTag)
			switch {
			case b == a:
				want = taken(key, a, c, some(roomOf(a), 1))
			case b < a:
				want = refusedPeel(api.ErrPad)
			}
			checkPeel(t, fmt.Sprintf("wrapped for %d, peeled with %d", a, b), peel(key, b, c), want)
			checkPeel(t, "by the words", definedPeel(key, b, c), want)
		}
	}
	for a := 2; a <= 8; a++ {
		for b := 1; b < a; b++ {
			c := cellOf(endingInNoughts(key, nonce, a, sizes[b-1]))
			checkPeel(t, fmt.Sprintf("wrapped for %d with noughts at its end, peeled with %d", a, b), peel(key, b, c), refusedPeel(api.ErrTag))
			checkPeel(t, "peeled with its own left", peel(key, a, c), definedPeel(key, a, c))
		}
	}
}

// endingInNoughts: an onion whose box is noughts from a place of the onion on; its tag fits.
func endingInNoughts(key []byte, nonce [16]byte, left, from int) []byte {
	keys := definedKeys(key, nonce[:])
	stream := masked(keys.Box, make([]byte, sizes[left-1]-32))
	plain := numbered(left, roomOf(left), nil)
	copy(plain[from-32:], stream[from-32:])
	return sealed(key, nonce, left, plain)
}

// P7.2: a payload wrapped for eight hops, and the cells peeled off one behind the other.
func TestChain(t *testing.T) {
	payload := []byte("to whom it may concern")
	onions := [][]byte{payload}
	for left := 1; left <= 8; left++ {
		onions = append(onions, onionOf(t, keyOf(byte(left)), nonceOf(byte(left+100)), left, onions[left-1]))
	}
	c := onions[8]
	seen := map[[16]byte]int{}
	for left := 8; left >= 1; left-- {
		got := peel(keyOf(byte(left)), left, c)
		checkPeel(t, fmt.Sprintf("%d left", left), got, taken(keyOf(byte(left)), left, c, onions[left-1]))
		if again := peel(keyOf(byte(left)), left, got.Cell); again.Err == api.OK {
			t.Errorf("%d left: what was peeled is peeled under the same key once more", left)
		}
		seen[got.Replay]++
		c = got.Cell
	}
	if p, yes, e := cell.Open(c); string(p) != string(payload) || !yes || e != api.OK {
		t.Errorf("behind the last hop: %q, %v, error %d", p, yes, e)
	}
	if len(seen) != 8 {
		t.Errorf("%d replay tags for 8 layers", len(seen))
	}
}

// P7.1: whether what is inside is an onion again isn't looked at.
func TestInsideIsNotLookedAt(t *testing.T) {
	for left := 2; left <= 8; left++ {
		key, nonce := keyOf(11), nonceOf(11)
		for _, inner := range append(inners(roomOf(left)), []byte{1, 200, 3}, []byte{2}, onionOf(t, key, nonce, 1, nil)[:82]) {
			c := cellOf(onionOf(t, key, nonce, left, inner))
			checkPeel(t, fmt.Sprintf("%d left", left), peel(key, left, c), taken(key, left, c, inner))
		}
	}
	for _, payload := range inners(48) {
		c := cellOf(onionOf(t, keyOf(12), nonceOf(12), 1, payload))
		checkPeel(t, "1 left", peel(keyOf(12), 1, c), taken(keyOf(12), 1, c, payload))
	}
}

// P7.3: a cell that is taken is cell.Pad of Wrap of its nonce and of just one inner: noughts more or fewer at its end make another cell. Plain boxes without a rule, with a tag that fits.
func TestOneForm(t *testing.T) {
	r := rand.New(rand.NewSource(73))
	count := 0
	for range 3000 {
		key, nonce, left := keyOf(byte(r.Intn(4))), nonceOf(byte(r.Intn(4))), 1+r.Intn(8)
		room := roomOf(left)
		p := make([]byte, r.Intn(room+1))
		r.Read(p)
		plain := numbered(left, max(0, len(p)+r.Intn(5)-2), p)
		c := cellOf(sealed(key, nonce, left, plain))
		got := peel(key, left, c)
		checkPeel(t, "by the words", got, definedPeel(key, left, c))
		if got.Err != api.OK {
			continue
		}
		count++
		length := int(plain[0])<<8 | int(plain[1])
		same := 0
		for n := range room + 1 {
			if n > length+3 || n < length-3 {
				continue
			}
			if o := wrap(key, [16]byte(c[:16]), left, plain[2:2+n]); bytes.Equal(cellOf(o.List), c) {
				same++
				if n != length {
					t.Errorf("the cell of %d bytes is Wrap of %d", length, n)
				}
			}
		}
		if same != 1 {
			t.Errorf("%d left, %d inside: Wrap of %d inners is the cell", left, length, same)
		}
	}
	if count < 500 {
		t.Errorf("only %d cells were taken", count)
	}
}

// P7.3: no two cells that are taken have the same nonce and inner: inners that become the same next cell have onions of their own.
func TestNoTwoForms(t *testing.T) {
	for left := 1; left <= 8; left++ {
		key, nonce := keyOf(13), nonceOf(13)
		seen := map[string]int{}
		for n := range roomOf(left) + 1 {
			c := cellOf(onionOf(t, key, nonce, left, make([]byte, n)))
			if got := peel(key, left, c); got.Err != api.OK {
				t.Errorf("%d noughts with %d left: %v", n, left, got)
			}
			seen[string(c)]++
		}
		if len(seen) != roomOf(left)+1 {
			t.Errorf("%d left: %d cells for %d inners", left, len(seen), roomOf(left)+1)
		}
	}
}

// P7.4: the replay tag is that of the key and the cell's first 32 bytes, whatever the left and what is inside; another nonce, tag or key has another.
func TestReplayTag(t *testing.T) {
	seen := map[[16]byte]string{}
	for left := 1; left <= 8; left++ {
		for seed := range byte(4) {
			for _, n := range []int{0, 1, roomOf(left)} {
				for _, other := range []byte{0, 100} {
					key, nonce := keyOf(seed+other+1), nonceOf(seed+1)
					c := cellOf(onionOf(t, key, nonce, left, some(n, 1)))
					got := peel(key, left, c)
					if want := definedReplay(key, c[:32]); got.Replay != want || got.Err != api.OK {
						t.Errorf("%d left, %d inside: %x; want %x", left, n, got.Replay, want)
					}
					if again := peel(bytes.Clone(key), left, bytes.Clone(c)); again.Replay != got.Replay {
						t.Errorf("%d left, %d inside: asked again %x", left, n, again.Replay)
					}
					what := fmt.Sprint(left, seed, n, other)
					if there, is := seen[got.Replay]; is {
						t.Errorf("%s has the replay tag of %s", what, there)
					}
					seen[got.Replay] = what
				}
			}
		}
	}
}

// P7.4: the same first 32 bytes with another tail: noughts behind the onion or it isn't taken, another box and it isn't taken; no replay tag stands beside the error.
func TestReplayTagOfAnotherTail(t *testing.T) {
	key := keyOf(14)
	for left := 1; left <= 8; left++ {
		c := cellOf(onionOf(t, key, nonceOf(14), left, some(40, 1)))
		want := peel(key, left, c)
		for _, at := range []int{32, 33, sizes[left-1] - 1, sizes[left-1], 319} {
			if at == 320 {
				continue
			}
			got := peel(key, left, with(c, at, c[at]^1))
			if got.Err == api.OK || got.Replay != ([16]byte{}) {
				t.Errorf("%d left, the byte at %d turned: %v", left, at, got)
			}
		}
		if again := peel(key, left, c); !again.same(want) || again.Replay != definedReplay(key, c[:32]) {
			t.Errorf("%d left: asked again: %v", left, again)
		}
	}
}

// P7.4: each byte of the nonce and of the tag tells: the boxes differ in one byte, so the tags do, and the replay tags with them.
func TestReplayTagsDiffer(t *testing.T) {
	key := keyOf(15)
	seen := map[[16]byte]int{}
	count := 0
	for at := range 16 {
		for bit := range 8 {
			nonce := [16]byte{}
			nonce[at] = 1 << bit
			seen[peel(key, 1, cellOf(onionOf(t, key, nonce, 1, nil))).Replay]++
			count++
		}
	}
	for at := range 48 {
		payload := with(make([]byte, 48), at, 1)
		seen[peel(key, 1, cellOf(onionOf(t, key, [16]byte{}, 1, payload))).Replay]++
		count++
	}
	if len(seen) != count {
		t.Errorf("%d replay tags for %d onions", len(seen), count)
	}
}

// withRoom: p in the midst of other bytes, which are its spare room too; and all of them.
func withRoom(p []byte) (inside, all []byte) {
	all = join(some(20, 77), p, some(400, 78))
	return all[20 : 20+len(p)], all
}

// An ask is a call's two lists.
type ask struct {
	name      string
	key, list []byte
	call      func(key, list []byte) (lists [][]byte, rest any)
}

// asks: each call, with lists that it takes and lists that it refuses.
func asks(t *testing.T) []ask {
	var all []ask
	add := func(name string, key, list []byte, call func(key, list []byte) ([][]byte, any)) {
		all = append(all, ask{name, key, list, call})
	}
	derive := func(key, list []byte) ([][]byte, any) {
		keys, e := onion.Derive(key, [16]byte(filled(16, list)))
		return nil, [2]any{keys, e}
	}
	for _, key := range [][]byte{keyOf(1), keyOf(1)[:31], nil, some(33, 1)} {
		add("Derive", key, some(16, 1), derive)
		for _, left := range []int{0, 1, 2, 8, 9} {
			wrapIt := func(key, list []byte) ([][]byte, any) {
				a := wrap(key, nonceOf(1), left, list)
				return [][]byte{a.List}, a.Err
			}
			peelIt := func(key, list []byte) ([][]byte, any) {
				a := peel(key, left, list)
				return [][]byte{a.Cell}, [2]any{a.Replay, a.Err}
			}
			for _, n := range []int{0, 1, 48, 49, 82, 83, 286, 287} {
				add(fmt.Sprintf("Wrap with %d left of %d bytes", left, n), key, some(n, 2), wrapIt)
			}
			for i, c := range cellsFor(t, keyOf(1), max(1, min(8, left))) {
				add(fmt.Sprintf("Peel with %d left of cell %d", left, i), key, c, peelIt)
			}
		}
	}
	return all
}

// cellsFor: a cell that Peel takes, and one for each of its errors.
func cellsFor(t *testing.T, key []byte, left int) [][]byte {
	nonce := nonceOf(1)
	good := cellOf(onionOf(t, key, nonce, left, some(30, 1)))
	return [][]byte{
		good,
		cellOf(onionOf(t, key, nonce, left, some(roomOf(left), 1))),
		cellOf(onionOf(t, key, nonce, left, nil)),
		good[:319],
		with(good, 319, good[319]+1),
		with(good, 20, good[20]^1),
		cellOf(sealed(key, nonce, left, numbered(left, roomOf(left)+1, nil))),
		cellOf(sealed(key, nonce, left, numbered(left, 0, some(3, 1)))),
		nil,
	}
}

// Rule 5: what is handed in stays as it is, its spare room too, and the room tells nothing.
func TestHandedInStays(t *testing.T) {
	for _, a := range asks(t) {
		key, allKey := withRoom(a.key)
		list, allList := withRoom(a.list)
		keyBefore, listBefore := bytes.Clone(allKey), bytes.Clone(allList)
		got, rest := a.call(key, list)
		want, wantRest := a.call(slices.Clip(bytes.Clone(a.key)), slices.Clip(bytes.Clone(a.list)))
		if !slices.EqualFunc(got, want, bytes.Equal) || rest != wantRest {
			t.Errorf("%s: with room %x, %v; without %x, %v", a.name, got, rest, want, wantRest)
		}
		if !bytes.Equal(allKey, keyBefore) || !bytes.Equal(allList, listBefore) {
			t.Errorf("%s: a list, or what lies about it, has changed", a.name)
		}
	}
}

// Rule 5: an answer is memory of its own: written over, room and all, it changes neither a list nor another answer; and the lists written over change no answer.
func TestAnswersAreNew(t *testing.T) {
	for _, a := range asks(t) {
		key, allKey := withRoom(a.key)
		list, allList := withRoom(a.list)
		keyBefore, listBefore := bytes.Clone(allKey), bytes.Clone(allList)
		first, _ := a.call(key, list)
		second, rest := a.call(key, list)
		var want [][]byte
		for _, p := range second {
			want = append(want, bytes.Clone(p))
		}
		for _, p := range first {
			clear(p[:cap(p)])
		}
		if !slices.EqualFunc(second, want, bytes.Equal) {
			t.Errorf("%s: two answers share memory", a.name)
		}
		if !bytes.Equal(allKey, keyBefore) || !bytes.Equal(allList, listBefore) {
			t.Errorf("%s: the answer shares memory with a list", a.name)
		}
		clear(allKey)
		clear(allList)
		if !slices.EqualFunc(second, want, bytes.Equal) {
			t.Errorf("%s: the answer changes with a list", a.name)
		}
		if again, same := a.call(a.key, a.list); !slices.EqualFunc(again, want, bytes.Equal) || same != rest {
			t.Errorf("%s: asked again it answers %x, %v; want %x, %v", a.name, again, same, want, rest)
		}
	}
}

// Rule 5: wrapped from inside a list, and peeled from inside one: lists that lie in one another's memory tell nothing.
func TestListsInOneMemory(t *testing.T) {
	for left := 1; left <= 8; left++ {
		all := some(320, 31)
		before := bytes.Clone(all)
		key, inner := all[8:40], all[20:20+roomOf(left)]
		got := wrap(key, nonceOf(1), left, inner)
		checkWrap(t, "Wrap", got, definedWrap(before[8:40], nonceOf(1), left, before[20:20+roomOf(left)]))
		c := cellOf(sealed(before[8:40], [16]byte(before[16:32]), left, numbered(left, 5, before[:5])))
		checkPeel(t, "Peel", peel(key, left, c), taken(key, left, c, before[:5]))
		if !bytes.Equal(all, before) {
			t.Errorf("%d left: the list has changed", left)
		}
	}
}

// Rule 3: beside an error nothing else is answered.
func TestNothingBesideAnError(t *testing.T) {
	for _, key := range [][]byte{nil, some(31, 1), keyOf(1)} {
		for _, left := range []int{-1, 0, 1, 2, 8, 9} {
			for _, n := range []int{0, 49, 287} {
				if p, e := onion.Wrap(key, nonceOf(1), left, some(n, 1)); e != api.OK && len(p) != 0 {
					t.Errorf("Wrap: %d bytes beside error %d", len(p), e)
				}
			}
			for _, c := range cellsFor(t, keyOf(1), max(1, min(8, left))) {
				if p, e := onion.Peel(key, left, c); e != api.OK && (len(p.Cell) != 0 || p.Replay != [16]byte{}) {
					t.Errorf("Peel: %d bytes and the replay tag %x beside error %d", len(p.Cell), p.Replay, e)
				}
			}
		}
	}
}

// Rule 6: many calls at one time, over the same lists, answer as one alone does.
func TestManyAtOneTime(t *testing.T) {
	var all sync.WaitGroup
	for _, a := range asks(t) {
		want, wantRest := a.call(a.key, a.list)
		for range 3 {
			all.Add(1)
			go func() {
				defer all.Done()
				if got, rest := a.call(a.key, a.list); !slices.EqualFunc(got, want, bytes.Equal) || rest != wantRest {
					t.Errorf("%s: %x, %v; alone %x, %v", a.name, got, rest, want, wantRest)
				}
			}()
		}
	}
	all.Wait()
}

func ExampleWrap() {
	key, nonce := make([]byte, 32), [16]byte{1, 2, 3}
	o, e := onion.Wrap(key, nonce, 1, []byte("hi"))
	fmt.Printf("%d bytes, error %d\n", len(o), e)
	c, _ := cell.Pad(o)
	p, e := onion.Peel(key, 1, c)
	payload, _, _ := cell.Open(p.Cell)
	fmt.Printf("%s, error %d\n", payload, e)
	_, e = onion.Peel(key, 2, c)
	fmt.Printf("with another left: error %d\n", e)
	// Output:
	// 82 bytes, error 0
	// hi, error 0
	// with another left: error 70
}
