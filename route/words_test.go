package route_test

import (
	"bytes"
	"crypto/aes"
	"crypto/cipher"
	"crypto/hkdf"
	"crypto/hmac"
	"crypto/sha256"
	"encoding/binary"
	"fmt"
	"slices"
	"testing"

	"churn/api"
	"churn/route"
)

// The words of this chapter and of onion's once more, over the library's HKDF, HMAC and AES and with plain numbers.

// sizes are those of onions with 1 to 8 hops left.
var sizes = [8]int{82, 116, 150, 184, 218, 252, 286, 320}

func join(pieces ...[]byte) []byte { return bytes.Join(pieces, nil) }

// filled: p and noughts behind it, n bytes.
func filled(n int, p ...[]byte) []byte {
	all := join(p...)
	return append(all, make([]byte, n-len(all))...)
}

// cellOf: the pieces and noughts behind them.
func cellOf(p ...[]byte) []byte { return filled(320, p...) }

// plainOf: the plain cell of a payload.
func plainOf(payload []byte) []byte { return cellOf([]byte{1, byte(len(payload))}, payload) }

func onlyNoughts(p []byte) bool { return len(bytes.Trim(p, "\x00")) == 0 }

func derived(secret, salt []byte, info string, n int) []byte {
	p, err := hkdf.Key(sha256.New, secret, salt, info, n)
	if err != nil {
		panic(err)
	}
	return p
}

// tagged: the first 16 bytes of the message's HMAC.
func tagged(key []byte, m ...[]byte) []byte {
	h := hmac.New(sha256.New, key)
	h.Write(join(m...))
	return h.Sum(nil)[:16]
}

// masked: counter mode from a start of noughts on.
func masked(key, p []byte) []byte {
	b, err := aes.NewCipher(key)
	if err != nil {
		panic(err)
	}
	out := make([]byte, len(p))
	cipher.NewCTR(b, make([]byte, 16)).XORKeyStream(out, p)
	return out
}

// boxed: an onion of a plain box that may be of no form at all, with the tag that fits.
func boxed(key []byte, nonce [16]byte, left int, plain []byte) []byte {
	keys := derived(key, nonce[:], "churn", 80)
	box := masked(keys[:16], plain)
	return join(nonce[:], tagged(keys[16:48], []byte{byte(left)}, nonce[:], box), box)
}

// numbered: a plain box of an onion: the number n, p behind it, noughts.
func numbered(left, n int, p []byte) []byte {
	return filled(sizes[left-1]-32, []byte{byte(n >> 8), byte(n)}, p)
}

// layer: one layer about what is inside.
func layer(key []byte, nonce [16]byte, left int, inner []byte) []byte {
	return boxed(key, nonce, left, numbered(left, len(inner), inner))
}

// layers: what is inside in the layers of the chain's first n hops; with all of its hops left is their number.
func layers(keys [][]byte, nonces [][16]byte, n int, inner []byte) []byte {
	for i := n - 1; i >= 0; i-- {
		inner = layer(keys[i], nonces[i], len(keys)-i, inner)
	}
	return inner
}

// replayOf: the replay tag, of the key and a cell's first 32 bytes.
func replayOf(key, c []byte) [16]byte {
	keys := derived(key, c[:16], "churn", 80)
	return [16]byte(tagged(keys[48:], c[:32]))
}

// definedPeel: onion's words, in their order.
func definedPeel(key []byte, left int, c []byte) (api.Peeled, api.Errno) {
	switch {
	case len(key) != 32:
		return api.Peeled{}, api.ErrArg
	case len(c) != 320:
		return api.Peeled{}, api.ErrSize
	case !onlyNoughts(c[sizes[left-1]:]):
		return api.Peeled{}, api.ErrPad
	}
	nonce, tag, box := c[:16], c[16:32], c[32:sizes[left-1]]
	keys := derived(key, nonce, "churn", 80)
	if !bytes.Equal(tag, tagged(keys[16:48], []byte{byte(left)}, nonce, box)) {
		return api.Peeled{}, api.ErrTag
	}
	plain := masked(keys[:16], box)
	n := 256*int(plain[0]) + int(plain[1])
	if n > sizes[left-1]-34 || !onlyNoughts(plain[2+n:]) {
		return api.Peeled{}, api.ErrBox
	}
	next := cellOf(plain[2 : 2+n])
	if left == 1 {
		next = plainOf(plain[2 : 2+n])
	}
	return api.Peeled{Cell: next, Replay: replayOf(key, c)}, api.OK
}

// A listed is what Key and Wrap answer; a walked what Walk does.
type listed struct {
	List []byte
	Err  api.Errno
}

type walked struct {
	Way []api.Peeled
	Err api.Errno
}

func (a listed) same(b listed) bool { return bytes.Equal(a.List, b.List) && a.Err == b.Err }

func (a walked) same(b walked) bool {
	return slices.EqualFunc(a.Way, b.Way, func(p, q api.Peeled) bool {
		return bytes.Equal(p.Cell, q.Cell) && p.Replay == q.Replay
	}) && a.Err == b.Err
}

func (a listed) String() string {
	return fmt.Sprintf("%d bytes %.60x, error %d", len(a.List), a.List, a.Err)
}

func (a walked) String() string {
	s := fmt.Sprintf("%d hops", len(a.Way))
	for _, p := range a.Way {
		s += fmt.Sprintf(", %d bytes %.30x with replay tag %x", len(p.Cell), p.Cell, p.Replay)
	}
	return s + fmt.Sprintf(", error %d", a.Err)
}

// definedKey, definedWrap and definedWalk: the chapter's words, in their order.
func definedKey(master []byte, epoch int64) listed {
	if len(master) != 32 || epoch < 0 || epoch > 4611686018427387904 {
		return listed{Err: api.ErrArg}
	}
	return listed{List: derived(master, binary.BigEndian.AppendUint64(nil, uint64(epoch)), "churn hop", 32)}
}

func definedWrap(keys [][]byte, nonces [][16]byte, payload []byte) listed {
	switch {
	case len(keys) < 1 || len(keys) > 8 || len(nonces) != len(keys):
		return listed{Err: api.ErrChain}
	case slices.ContainsFunc(keys, func(key []byte) bool { return len(key) != 32 }):
		return listed{Err: api.ErrArg}
	case len(payload) > 48:
		return listed{Err: api.ErrLong}
	}
	return listed{List: cellOf(layers(keys, nonces, len(keys), payload))}
}

func definedWalk(keys [][]byte, c []byte) walked {
	if len(keys) < 1 || len(keys) > 8 {
		return walked{Err: api.ErrChain}
	}
	var way []api.Peeled
	for i, key := range keys {
		p, e := definedPeel(key, len(keys)-i, c)
		if e != api.OK {
			return walked{Err: e}
		}
		way, c = append(way, p), p.Cell
	}
	return walked{Way: way}
}

func key(master []byte, epoch int64) listed {
	p, e := route.Key(master, epoch)
	return listed{p, e}
}

func wrap(keys [][]byte, nonces [][16]byte, payload []byte) listed {
	p, e := route.Wrap(keys, nonces, payload)
	return listed{p, e}
}

func walk(keys [][]byte, c []byte) walked {
	way, e := route.Walk(keys, c)
	return walked{way, e}
}

func checkList(t *testing.T, what string, got, want listed) {
	t.Helper()
	if !got.same(want) {
		t.Errorf("%s: %v; want %v", what, got, want)
	}
}

func checkWalk(t *testing.T, what string, got, want walked) {
	t.Helper()
	if !got.same(want) {
		t.Errorf("%s: %v; want %v", what, got, want)
	}
}

// checkRefused: Walk refuses with this error, and so do the words.
func checkRefused(t *testing.T, what string, keys [][]byte, c []byte, e api.Errno) {
	t.Helper()
	checkWalk(t, what, walk(keys, c), walked{Err: e})
	checkWalk(t, what+", by the words", definedWalk(keys, c), walked{Err: e})
}

// some: n bytes of which none is 0, other ones for another seed.
func some(n int, seed byte) []byte {
	p := make([]byte, n)
	for i := range p {
		p[i] = byte((i*31+int(seed)*37)%255) + 1
	}
	return p
}

// chain: h keys and nonces, none like another; other ones for another seed.
func chain(h int, seed byte) ([][]byte, [][16]byte) {
	var keys [][]byte
	var nonces [][16]byte
	for i := range h {
		keys = append(keys, some(32, seed+byte(2*i)))
		nonces = append(nonces, [16]byte(some(16, seed+byte(2*i+1))))
	}
	return keys, nonces
}

// with: a copy of p with the byte b at a place.
func with(p []byte, at int, b byte) []byte {
	p = bytes.Clone(p)
	p[at] = b
	return p
}

// withKey: a copy of the chain with another key at a place.
func withKey(keys [][]byte, at int, key []byte) [][]byte {
	keys = slices.Clone(keys)
	keys[at] = key
	return keys
}

// wrapped: a cell by Wrap, which must take what it is given.
func wrapped(t *testing.T, keys [][]byte, nonces [][16]byte, payload []byte) []byte {
	t.Helper()
	a := wrap(keys, nonces, payload)
	if a.Err != api.OK || len(a.List) != 320 {
		t.Fatalf("Wrap of %d bytes for %d hops: %v", len(payload), len(keys), a)
	}
	return a.List
}
