package reply_test

import (
	"bytes"
	"fmt"
	"math"
	"math/rand"
	"slices"
	"testing"

	"churn/api"
	"churn/mac"
	"churn/onion"
	"churn/reply"
)

// P27.1: the chapter's examples.
func TestExamples(t *testing.T) {
	keys, nonces := hops(9, 1)
	check(t, "Key of a key of 31 bytes", key(keys[0][:31], nonces[0]), told{Err: api.ErrArg})
	check(t, "Wrap with left 0", wrap(keys[0], nonces[0], 0, nil), told{Err: api.ErrArg})
	check(t, "Wrap with left 1 and 49 bytes", wrap(keys[0], nonces[0], 1, make([]byte, 49)), told{Err: api.ErrLong})

	check(t, "Chain of no keys", chain(nil, nil, nil), told{Err: api.ErrChain})
	check(t, "Chain of nine", chain(keys, nonces, nil), told{Err: api.ErrChain})
	check(t, "Chain of one key and two nonces", chain(keys[:1], nonces[:2], nil), told{Err: api.ErrChain})
	check(t, "Chain of a key of 31 bytes", chain([][]byte{keys[0][:31]}, nonces[:1], make([]byte, 49)), told{Err: api.ErrArg})
	check(t, "Chain of a right key and 49 bytes", chain(keys[:1], nonces[:1], make([]byte, 49)), told{Err: api.ErrLong})

	two, both := keys[:2], nonces[:2]
	c := chained(t, two, both, []byte("hi"))
	checkOpen(t, "the payload", two, both, c, told{List: []byte("hi")})
	checkRefused(t, "the last byte turned", two, both, with(c, 319, c[319]^1), api.ErrPad)
	checkRefused(t, "the first byte turned", two, both, with(c, 0, c[0]^1), api.ErrTag)
	checkRefused(t, "the keys the other way round", [][]byte{two[1], two[0]}, both, c, api.ErrTag)
	checkRefused(t, "319 bytes", two, both, c[:319], api.ErrSize)
	checkRefused(t, "319 bytes and a key of 33", at(two, 1, some(33, 1)), both, c[:319], api.ErrArg)
}

// P27.1: the errors' numbers are those that the chapters give.
func TestNumbersOfErrors(t *testing.T) {
	keys, nonces := hops(2, 1)
	c := chained(t, keys, nonces, []byte("x"))
	for _, a := range []struct {
		got  api.Errno
		want int
	}{
		{key(nil, nonces[0]).Err, 2},
		{key(keys[0], nonces[0]).Err, 0},
		{wrap(nil, nonces[0], 1, nil).Err, 2},
		{wrap(keys[0], nonces[0], 9, nil).Err, 2},
		{wrap(keys[0], nonces[0], 8, make([]byte, 287)).Err, 1},
		{wrap(keys[0], nonces[0], 8, make([]byte, 286)).Err, 0},
		{chain(nil, nil, nil).Err, 80},
		{chain(keys, nonces[:1], nil).Err, 80},
		{chain(at(keys, 1, nil), nonces, nil).Err, 2},
		{chain(keys, nonces, make([]byte, 49)).Err, 1},
		{chain(keys, nonces, make([]byte, 48)).Err, 0},
		{open(nil, nil, c).Err, 80},
		{open(keys, nonces[:1], c).Err, 80},
		{open(at(keys, 1, nil), nonces, c).Err, 2},
		{open(keys, nonces, c[:319]).Err, 50},
		{open(keys, nonces, with(c, 319, 1)).Err, 51},
		{open(keys, nonces, with(c, 115, c[115]^1)).Err, 70},
		{open(keys, nonces, cellOf(boxed(backOf(keys[0], nonces[0]), nonces[0], 2, numbered(2, 83, nil)))).Err, 71},
		{open(keys, nonces, c).Err, 0},
	} {
		if a.got != api.Errno(a.want) {
			t.Errorf("error %d where %d belongs", a.got, a.want)
		}
	}
}

// P27.1: keys of 0, 31 and 33 bytes and of others that aren't 32, and what stands beside the error.
func TestWrongKeys(t *testing.T) {
	for _, wrong := range wrongKeys() {
		for _, nonce := range [][16]byte{{}, [16]byte(some(16, 1))} {
			what := fmt.Sprintf("a key of %d bytes", len(wrong))
			check(t, what, key(wrong, nonce), told{Err: api.ErrArg})
			for _, left := range []int{-1, 0, 1, 8, 9} {
				for _, n := range []int{0, 48, 49, 1000} {
					check(t, fmt.Sprintf("%s, left %d, %d bytes", what, left, n), wrap(wrong, nonce, left, make([]byte, n)), told{Err: api.ErrArg})
				}
			}
		}
	}
}

// P27.1: a key of the way back is mac.Derive's, of 32 bytes; another for each byte of key and nonce that is another; and none that is derived for another end.
func TestKey(t *testing.T) {
	seen, count := map[string]int{}, 0
	note := func(k []byte, nonce [16]byte) {
		want, _ := mac.Derive(k, nonce[:], []byte("churn back"), 32)
		got := key(k, nonce)
		check(t, fmt.Sprintf("%x, %x", k, nonce), got, told{List: want})
		check(t, fmt.Sprintf("%x, %x, by the words", k, nonce), got, definedKey(k, nonce))
		seen[string(got.List)]++
		count++
	}
	for _, k := range [][]byte{make([]byte, 32), bytes.Repeat([]byte{255}, 32), some(32, 1)} {
		for _, nonce := range [][16]byte{{}, [16]byte(bytes.Repeat([]byte{255}, 16)), [16]byte(some(16, 1))} {
			note(k, nonce)
			for i := range k {
				note(with(k, i, k[i]^1), nonce)
			}
			for i := range nonce {
				other := nonce
				other[i] ^= 128
				note(k, other)
			}
			seen[string(k)]++
			for _, info := range []string{"churn", "churn hop", "churn bac", "churn back ", ""} {
				seen[string(derived(k, nonce[:], info, 32))]++
				count++
			}
		}
	}
	if len(seen) != count+3 {
		t.Errorf("%d keys of %d", len(seen), count+3)
	}
}

// P27.1: keys and nonces without a rule.
func TestKeyOfAny(t *testing.T) {
	r := rand.New(rand.NewSource(271))
	for range 2000 {
		keys, nonces := anyHops(r, 1)
		check(t, "Key", key(keys[0], nonces[0]), definedKey(keys[0], nonces[0]))
	}
}

// P27.1: an inner part of each length up to what left allows, and of more; the onion is onion.Wrap's under the key of the way back.
func TestWrapEveryLength(t *testing.T) {
	keys, nonces := hops(8, 3)
	for left := 1; left <= 8; left++ {
		room := sizes[left-1] - 34
		for n := 0; n <= room+3; n++ {
			k, nonce, inner := keys[n%8], nonces[(n+left)%8], some(n, byte(n))
			what := fmt.Sprintf("left %d, %d bytes", left, n)
			got := wrap(k, nonce, left, inner)
			check(t, what+", by the words", got, definedWrap(k, nonce, left, inner))
			var want told
			want.List, want.Err = onion.Wrap(backOf(k, nonce), nonce, left, inner)
			check(t, what, got, want)
			if (n > room) != (got.Err == api.ErrLong) || (n <= room && len(got.List) != sizes[left-1]) {
				t.Errorf("%s: %v", what, got)
			}
		}
	}
}

// P27.1: a left that is out of range, at its edges and at both ends of its type, whatever is inside.
func TestWrongLeft(t *testing.T) {
	keys, nonces := hops(1, 4)
	for _, left := range []int{math.MinInt, math.MinInt32, -256, -2, -1, 0, 9, 10, 256, 257, 1 << 32, 1<<32 + 1, math.MaxInt - 1, math.MaxInt} {
		for _, n := range []int{0, 1, 48, 49, 286, 287, 65536} {
			check(t, fmt.Sprintf("left %d, %d bytes", left, n), wrap(keys[0], nonces[0], left, make([]byte, n)), told{Err: api.ErrArg})
		}
	}
}

// P27.1: inner parts much longer than what left allows.
func TestWrapTooLong(t *testing.T) {
	keys, nonces := hops(1, 5)
	for left := 1; left <= 8; left++ {
		for _, n := range []int{sizes[left-1] - 33, sizes[left-1], 287, 320, 321, 65536, 65536 + 48, 1 << 20} {
			check(t, fmt.Sprintf("left %d, %d bytes", left, n), wrap(keys[0], nonces[0], left, make([]byte, n)), told{Err: api.ErrLong})
		}
	}
}

// P27.1: whatever is inside: bytes of one kind, noughts ahead and behind, an onion with as many hops left.
func TestWrapOfAny(t *testing.T) {
	r := rand.New(rand.NewSource(272))
	for range 1000 {
		keys, nonces := anyHops(r, 1)
		left := 1 + r.Intn(8)
		inner := make([]byte, r.Intn(sizes[left-1]-33))
		if r.Intn(4) > 0 {
			r.Read(inner)
		}
		got := wrap(keys[0], nonces[0], left, inner)
		check(t, "Wrap", got, definedWrap(keys[0], nonces[0], left, inner))
		p, e := onion.Peel(backOf(keys[0], nonces[0]), left, cellOf(got.List))
		want := cellOf(inner)
		if left == 1 {
			want = cellOf([]byte{1, byte(len(inner))}, inner)
		}
		if e != api.OK || !bytes.Equal(p.Cell, want) {
			t.Errorf("left %d, %d bytes: error %d, %x", left, len(inner), e, p.Cell)
		}
	}
}

// P27.1: the onion is another one for each byte of key, nonce and inner part that is another, and for another left.
func TestWrapHangsOnAll(t *testing.T) {
	keys, nonces := hops(1, 6)
	k, nonce, inner := keys[0], nonces[0], some(48, 1)
	seen, count := map[string]int{}, 0
	note := func(k []byte, nonce [16]byte, left int, inner []byte) {
		seen[string(wrap(k, nonce, left, inner).List)]++
		count++
	}
	for left := 1; left <= 8; left++ {
		note(k, nonce, left, inner)
		note(k, nonce, left, inner[:47])
		note(k, nonce, left, append(inner[:47:47], 0))
		for i := range inner {
			note(k, nonce, left, with(inner, i, 0))
		}
		for i := range k {
			note(with(k, i, 0), nonce, left, inner)
		}
		for i := range nonce {
			note(k, [16]byte(with(nonce[:], i, 0)), left, inner)
		}
	}
	// with(inner, 47, 0) is the third of them.
	if len(seen) != count-8 {
		t.Errorf("%d onions of %d", len(seen), count-8)
	}
}

func ExampleChain() {
	keys, nonces := [][]byte{bytes.Repeat([]byte{1}, 32), bytes.Repeat([]byte{2}, 32)}, [][16]byte{{1, 2, 3}, {4, 5, 6}}
	c, e := reply.Chain(keys, nonces, []byte("hi"))
	fmt.Printf("%d bytes, error %d\n", len(c), e)

	o, _ := reply.Wrap(keys[1], nonces[1], 1, []byte("hi")) // what the last hop puts out
	o, _ = reply.Wrap(keys[0], nonces[0], 2, o)             // and the first one
	fmt.Println(bytes.Equal(c[:len(o)], o))

	payload, e := reply.Open(keys, nonces, c)
	fmt.Printf("%s, error %d\n", payload, e)
	slices.Reverse(keys)
	_, e = reply.Open(keys, nonces, c)
	fmt.Printf("the other way round: error %d\n", e)
	// Output:
	// 320 bytes, error 0
	// true
	// hi, error 0
	// the other way round: error 70
}
