package reply_test

import (
	"bytes"
	"crypto/aes"
	"crypto/cipher"
	"crypto/hkdf"
	"crypto/hmac"
	"crypto/sha256"
	"fmt"
	"math/rand"
	"slices"
	"testing"

	"churn/api"
	"churn/reply"
)

// The words of this chapter and of onion's once more, over the library's HKDF, HMAC and AES and with plain numbers.

// sizes are those of onions with 1 to 8 hops left.
var sizes = [8]int{82, 116, 150, 184, 218, 252, 286, 320}

func join(pieces ...[]byte) []byte { return bytes.Join(pieces, nil) }

// filled: p and noughts behind it, n bytes.
func filled(n int, p ...[]byte) []byte {
	all := join(p...)
	return append(all, make([]byte, n-len(all))...)
}

// cellOf: the pieces and noughts behind them.
func cellOf(p ...[]byte) []byte { return filled(320, p...) }

func onlyNoughts(p []byte) bool { return len(bytes.Trim(p, "\x00")) == 0 }

func derived(secret, salt []byte, info string, n int) []byte {
	p, err := hkdf.Key(sha256.New, secret, salt, info, n)
	if err != nil {
		panic(err)
	}
	return p
}

// tagged: the first 16 bytes of the message's HMAC.
func tagged(key []byte, m ...[]byte) []byte {
	h := hmac.New(sha256.New, key)
	h.Write(join(m...))
	return h.Sum(nil)[:16]
}

// masked: counter mode from a start of noughts on.
func masked(key, p []byte) []byte {
	b, err := aes.NewCipher(key)
	if err != nil {
		panic(err)
	}
	out := make([]byte, len(p))
	cipher.NewCTR(b, make([]byte, 16)).XORKeyStream(out, p)
	return out
}

// backOf: the key of the way back.
func backOf(key []byte, nonce [16]byte) []byte { return derived(key, nonce[:], "churn back", 32) }

// boxed: an onion under this very key, of a plain box that may be of no form at all, with the tag that fits.
func boxed(key []byte, nonce [16]byte, left int, plain []byte) []byte {
	keys := derived(key, nonce[:], "churn", 80)
	box := masked(keys[:16], plain)
	return join(nonce[:], tagged(keys[16:48], []byte{byte(left)}, nonce[:], box), box)
}

// numbered: a plain box of an onion: the number n, p behind it, noughts.
func numbered(left, n int, p []byte) []byte {
	return filled(sizes[left-1]-32, []byte{byte(n >> 8), byte(n)}, p)
}

// layer: one layer about what is inside, under this very key.
func layer(key []byte, nonce [16]byte, left int, inner []byte) []byte {
	return boxed(key, nonce, left, numbered(left, len(inner), inner))
}

// layers: what is inside in the answer's layers of the chain's first n hops; with all of its hops left is their number.
func layers(keys [][]byte, nonces [][16]byte, n int, inner []byte) []byte {
	for i := n - 1; i >= 0; i-- {
		inner = layer(backOf(keys[i], nonces[i]), nonces[i], len(keys)-i, inner)
	}
	return inner
}

// definedPeel: onion's words, in their order, for a key of 32 bytes and a left in range; told are the bytes that are inside.
func definedPeel(key []byte, left int, c []byte) ([]byte, api.Errno) {
	switch {
	case len(c) != 320:
		return nil, api.ErrSize
	case !onlyNoughts(c[sizes[left-1]:]):
		return nil, api.ErrPad
	}
	nonce, tag, box := c[:16], c[16:32], c[32:sizes[left-1]]
	keys := derived(key, nonce, "churn", 80)
	if !bytes.Equal(tag, tagged(keys[16:48], []byte{byte(left)}, nonce, box)) {
		return nil, api.ErrTag
	}
	plain := masked(keys[:16], box)
	n := 256*int(plain[0]) + int(plain[1])
	if n > sizes[left-1]-34 || !onlyNoughts(plain[2+n:]) {
		return nil, api.ErrBox
	}
	return plain[2 : 2+n], api.OK
}

// A told is what each of the calls answers.
type told struct {
	List []byte
	Err  api.Errno
}

func (a told) same(b told) bool { return bytes.Equal(a.List, b.List) && a.Err == b.Err }

func (a told) String() string {
	return fmt.Sprintf("%d bytes %.60x, error %d", len(a.List), a.List, a.Err)
}

// definedKey, definedWrap, definedChain and definedOpen: the chapter's words, in their order.
func definedKey(key []byte, nonce [16]byte) told {
	if len(key) != 32 {
		return told{Err: api.ErrArg}
	}
	return told{List: backOf(key, nonce)}
}

func definedWrap(key []byte, nonce [16]byte, left int, inner []byte) told {
	switch {
	case len(key) != 32 || left < 1 || left > 8:
		return told{Err: api.ErrArg}
	case len(inner) > 48+34*(left-1):
		return told{Err: api.ErrLong}
	}
	return told{List: layer(backOf(key, nonce), nonce, left, inner)}
}

func definedChain(keys [][]byte, nonces [][16]byte, payload []byte) told {
	switch {
	case len(keys) < 1 || len(keys) > 8 || len(nonces) != len(keys):
		return told{Err: api.ErrChain}
	case slices.ContainsFunc(keys, func(key []byte) bool { return len(key) != 32 }):
		return told{Err: api.ErrArg}
	case len(payload) > 48:
		return told{Err: api.ErrLong}
	}
	return told{List: cellOf(layers(keys, nonces, len(keys), payload))}
}

func definedOpen(keys [][]byte, nonces [][16]byte, c []byte) told {
	if a := definedChain(keys, nonces, nil); a.Err != api.OK {
		return told{Err: a.Err}
	}
	for i, key := range keys {
		inner, e := definedPeel(backOf(key, nonces[i]), len(keys)-i, c)
		if e != api.OK {
			return told{Err: e}
		}
		if i == len(keys)-1 {
			return told{List: inner}
		}
		c = cellOf(inner)
	}
	panic("a chain without hops")
}

func key(k []byte, nonce [16]byte) told {
	p, e := reply.Key(k, nonce)
	return told{p, e}
}

func wrap(k []byte, nonce [16]byte, left int, inner []byte) told {
	p, e := reply.Wrap(k, nonce, left, inner)
	return told{p, e}
}

func chain(keys [][]byte, nonces [][16]byte, payload []byte) told {
	p, e := reply.Chain(keys, nonces, payload)
	return told{p, e}
}

func open(keys [][]byte, nonces [][16]byte, c []byte) told {
	p, e := reply.Open(keys, nonces, c)
	return told{p, e}
}

func check(t *testing.T, what string, got, want told) {
	t.Helper()
	if !got.same(want) {
		t.Errorf("%s: %v; want %v", what, got, want)
	}
}

// checkOpen: Open answers this, and so do the words.
func checkOpen(t *testing.T, what string, keys [][]byte, nonces [][16]byte, c []byte, want told) {
	t.Helper()
	check(t, what, open(keys, nonces, c), want)
	check(t, what+", by the words", definedOpen(keys, nonces, c), want)
}

func checkRefused(t *testing.T, what string, keys [][]byte, nonces [][16]byte, c []byte, e api.Errno) {
	t.Helper()
	checkOpen(t, what, keys, nonces, c, told{Err: e})
}

// some: n bytes of which none is 0, other ones for another seed.
func some(n int, seed byte) []byte {
	p := make([]byte, n)
	for i := range p {
		p[i] = byte((i*31+int(seed)*37)%255) + 1
	}
	return p
}

// hops: the keys and nonces of h hops, none like another; other ones for another seed.
func hops(h int, seed byte) ([][]byte, [][16]byte) {
	var keys [][]byte
	var nonces [][16]byte
	for i := range h {
		keys = append(keys, some(32, seed+byte(2*i)))
		nonces = append(nonces, [16]byte(some(16, seed+byte(2*i+1))))
	}
	return keys, nonces
}

// anyHops: drawn ones.
func anyHops(r *rand.Rand, h int) ([][]byte, [][16]byte) {
	keys, nonces := make([][]byte, h), make([][16]byte, h)
	for i := range h {
		keys[i] = make([]byte, 32)
		r.Read(keys[i])
		r.Read(nonces[i][:])
	}
	return keys, nonces
}

// with: a copy of p with the byte b at a place.
func with(p []byte, at int, b byte) []byte {
	p = bytes.Clone(p)
	p[at] = b
	return p
}

// at: a copy of a list with another thing at a place.
func at[T any](list []T, i int, x T) []T {
	list = slices.Clone(list)
	list[i] = x
	return list
}

// chained: a cell by Chain, which must take what it is given.
func chained(t *testing.T, keys [][]byte, nonces [][16]byte, payload []byte) []byte {
	t.Helper()
	a := chain(keys, nonces, payload)
	if a.Err != api.OK || len(a.List) != 320 {
		t.Fatalf("Chain of %d bytes for %d hops: %v", len(payload), len(keys), a)
	}
	return a.List
}

// wrongKeys are keys that haven't 32 bytes.
func wrongKeys() [][]byte {
	keys := [][]byte{nil, {}, make([]byte, 0, 32), some(32, 1)[:0]}
	for _, n := range []int{1, 16, 31, 33, 64, 288, 65536 + 32} {
		keys = append(keys, make([]byte, n), some(n, 1))
	}
	return keys
}

// payloads are of all lengths that mean something, and of bytes that a mistake about noughts or heads would mix up.
func payloads() [][]byte {
	all := [][]byte{nil, {}, {0}, {1}, []byte("hello"), make([]byte, 48), bytes.Repeat([]byte{255}, 48), append(some(3, 1), 0, 0), append([]byte{0, 0}, some(3, 1)...), cellOf()[:40]}
	for _, n := range []int{1, 2, 16, 32, 47, 48} {
		all = append(all, some(n, byte(n)))
	}
	return all
}
