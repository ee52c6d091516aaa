package onion_test

import (
	"bytes"
	"crypto/aes"
	"crypto/cipher"
	"crypto/hkdf"
	"crypto/hmac"
	"crypto/sha256"
	"fmt"
	"math"
	"testing"

	"churn/api"
	"churn/onion"
)

// The chapter's words once more, over the library's HKDF, HMAC and AES and with plain numbers.

// sizes are those of onions with 1 to 8 hops left.
var sizes = [8]int{82, 116, 150, 184, 218, 252, 286, 320}

// wrongLefts are numbers outside 1 to MaxHops; some look like one inside, if only their last bits are read.
var wrongLefts = []int{math.MinInt, math.MinInt + 1, math.MinInt + 8, math.MinInt32, -1 << 32, -257, -256, -255, -248, -8, -2, -1, 0, 9, 10, 16, 255, 256, 257, 264, 1<<16 + 1, math.MaxInt32, 1 << 32, 1<<32 + 1, 1<<32 + 8, math.MaxInt / 34, math.MaxInt/34 + 1, math.MaxInt - 1, math.MaxInt}

// wrongKeys are keys that haven't 32 bytes.
func wrongKeys() [][]byte {
	keys := [][]byte{nil, {}, make([]byte, 0, 32)}
	for _, n := range []int{1, 16, 30, 31, 33, 34, 64, 288, 65536 + 32} {
		keys = append(keys, make([]byte, n), some(n, 1))
	}
	return keys
}

func roomOf(left int) int { return sizes[left-1] - 34 }

func isLeft(left int) bool { return left >= 1 && left <= 8 }

func join(pieces ...[]byte) []byte { return bytes.Join(pieces, nil) }

// filled: p and noughts behind it, n bytes.
func filled(n int, p ...[]byte) []byte {
	all := join(p...)
	return append(all, make([]byte, n-len(all))...)
}

// cellOf: the pieces and noughts behind them.
func cellOf(p ...[]byte) []byte { return filled(320, p...) }

func onlyNoughts(p []byte) bool { return len(bytes.Trim(p, "\x00")) == 0 }

// definedKeys: the 80 bytes, cut.
func definedKeys(key, nonce []byte) api.OnionKeys {
	p, err := hkdf.Key(sha256.New, key, nonce, "churn", 80)
	if err != nil {
		panic(err)
	}
	return api.OnionKeys{Box: [16]byte(p[:16]), Mac: [32]byte(p[16:48]), Replay: [32]byte(p[48:])}
}

// tagged: the first 16 bytes of the message's HMAC.
func tagged(key [32]byte, m ...[]byte) []byte {
	h := hmac.New(sha256.New, key[:])
	h.Write(join(m...))
	return h.Sum(nil)[:16]
}

// masked: counter mode from a start of noughts on.
func masked(key [16]byte, p []byte) []byte {
	b, err := aes.NewCipher(key[:])
	if err != nil {
		panic(err)
	}
	out := make([]byte, len(p))
	cipher.NewCTR(b, make([]byte, 16)).XORKeyStream(out, p)
	return out
}

// sealed: an onion of a plain box that may be of no form at all, with the tag that fits.
func sealed(key []byte, nonce [16]byte, left int, plain []byte) []byte {
	keys := definedKeys(key, nonce[:])
	box := masked(keys.Box, plain)
	return join(nonce[:], tagged(keys.Mac, []byte{byte(left)}, nonce[:], box), box)
}

// numbered: a plain box of an onion: the number n, p behind it, noughts.
func numbered(left, n int, p []byte) []byte {
	return filled(sizes[left-1]-32, []byte{byte(n >> 8), byte(n)}, p)
}

// definedReplay: the replay tag, of the key and 32 bytes alone.
func definedReplay(key, first []byte) [16]byte {
	keys := definedKeys(key, first[:16])
	return [16]byte(tagged(keys.Replay, first))
}

// A wrapped is what Wrap answers; a peeled what Peel does.
type wrapped struct {
	List []byte
	Err  api.Errno
}

type peeled struct {
	api.Peeled
	Err api.Errno
}

func (a wrapped) same(b wrapped) bool { return bytes.Equal(a.List, b.List) && a.Err == b.Err }

func (a peeled) same(b peeled) bool {
	return bytes.Equal(a.Cell, b.Cell) && a.Replay == b.Replay && a.Err == b.Err
}

func (a wrapped) String() string {
	return fmt.Sprintf("%d bytes %x, error %d", len(a.List), a.List, a.Err)
}

func (a peeled) String() string {
	return fmt.Sprintf("%d bytes %.120x, replay tag %x, error %d", len(a.Cell), a.Cell, a.Replay, a.Err)
}

// definedWrap: the chapter's words, in their order.
func definedWrap(key []byte, nonce [16]byte, left int, inner []byte) wrapped {
	switch {
	case len(key) != 32:
		return wrapped{Err: api.ErrArg}
	case !isLeft(left):
		return wrapped{Err: api.ErrArg}
	case len(inner) > roomOf(left):
		return wrapped{Err: api.ErrLong}
	}
	return wrapped{List: sealed(key, nonce, left, numbered(left, len(inner), inner))}
}

// definedPeel: the chapter's words, in their order.
func definedPeel(key []byte, left int, c []byte) peeled {
	switch {
	case len(key) != 32 || !isLeft(left):
		return peeled{Err: api.ErrArg}
	case len(c) != 320:
		return peeled{Err: api.ErrSize}
	case !onlyNoughts(c[sizes[left-1]:]):
		return peeled{Err: api.ErrPad}
	}
	nonce, tag, box := c[:16], c[16:32], c[32:sizes[left-1]]
	keys := definedKeys(key, nonce)
	if !bytes.Equal(tag, tagged(keys.Mac, []byte{byte(left)}, nonce, box)) {
		return peeled{Err: api.ErrTag}
	}
	inner, ok := definedInner(left, masked(keys.Box, box))
	if !ok {
		return peeled{Err: api.ErrBox}
	}
	return taken(key, left, c, inner)
}

// definedInner: the bytes inside a plain box; false, if it isn't of the form.
func definedInner(left int, plain []byte) ([]byte, bool) {
	n := 256*int(plain[0]) + int(plain[1])
	if n > roomOf(left) || !onlyNoughts(plain[2+n:]) {
		return nil, false
	}
	return plain[2 : 2+n], true
}

// taken: what Peel answers of a cell that it takes, with inner inside.
func taken(key []byte, left int, c, inner []byte) peeled {
	next := cellOf(inner)
	if left == 1 {
		next = cellOf([]byte{1, byte(len(inner))}, inner)
	}
	return peeled{Peeled: api.Peeled{Cell: next, Replay: definedReplay(key, c[:32])}}
}

func refusedWrap(e api.Errno) wrapped { return wrapped{Err: e} }
func refusedPeel(e api.Errno) peeled  { return peeled{Err: e} }

func wrap(key []byte, nonce [16]byte, left int, inner []byte) wrapped {
	p, e := onion.Wrap(key, nonce, left, inner)
	return wrapped{p, e}
}

func peel(key []byte, left int, c []byte) peeled {
	p, e := onion.Peel(key, left, c)
	return peeled{p, e}
}

func checkWrap(t *testing.T, what string, got, want wrapped) {
	t.Helper()
	if !got.same(want) {
		t.Errorf("%s: %v; want %v", what, got, want)
	}
}

func checkPeel(t *testing.T, what string, got, want peeled) {
	t.Helper()
	if !got.same(want) {
		t.Errorf("%s: %v; want %v", what, got, want)
	}
}

// some: n bytes of which none is 0, other ones for another seed.
func some(n int, seed byte) []byte {
	p := make([]byte, n)
	for i := range p {
		p[i] = byte((i*31+int(seed)*37)%255) + 1
	}
	return p
}

func keyOf(seed byte) []byte     { return some(32, seed) }
func nonceOf(seed byte) [16]byte { return [16]byte(some(16, seed)) }

// with: a copy of p with the byte b at a place.
func with(p []byte, at int, b byte) []byte {
	p = bytes.Clone(p)
	p[at] = b
	return p
}

// onionOf: an onion by Wrap, which must take what it is given.
func onionOf(t *testing.T, key []byte, nonce [16]byte, left int, inner []byte) []byte {
	t.Helper()
	a := wrap(key, nonce, left, inner)
	if a.Err != api.OK || len(a.List) != sizes[left-1] {
		t.Fatalf("Wrap of %d bytes with %d left: %v", len(inner), left, a)
	}
	return a.List
}
