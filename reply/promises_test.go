package reply_test

import (
	"bytes"
	"fmt"
	"math/rand"
	"testing"

	"churn/api"
	"churn/cell"
	"churn/onion"
	"churn/reply"
	"churn/route"
)

// each: chains of each length with the payloads that mean something, and drawn ones.
func each(visit func(what string, keys [][]byte, nonces [][16]byte, payload []byte)) {
	for h := 1; h <= 8; h++ {
		keys, nonces := hops(h, byte(5*h))
		for i, payload := range payloads() {
			visit(fmt.Sprintf("%d hops, payload %d", h, i), keys, nonces, payload)
		}
	}
	r := rand.New(rand.NewSource(275))
	for n := range 400 {
		h := 1 + r.Intn(8)
		keys, nonces := anyHops(r, h)
		payload := make([]byte, r.Intn(49))
		r.Read(payload)
		if n%4 == 0 {
			nonces[h-1] = nonces[0]
		}
		visit(fmt.Sprintf("%d drawn hops, number %d", h, n), keys, nonces, payload)
	}
}

// P27.2: what Chain answers is a cell, and Open tells the payload of it.
func TestWhatWasAnsweredIsHeard(t *testing.T) {
	each(func(what string, keys [][]byte, nonces [][16]byte, payload []byte) {
		c, e := reply.Chain(keys, nonces, payload)
		if e != api.OK || len(c) != api.CellSize {
			t.Fatalf("%s: %d bytes, error %d", what, len(c), e)
		}
		if p, e := reply.Open(keys, nonces, c); e != api.OK || !bytes.Equal(p, payload) {
			t.Errorf("%s: %x, error %d; want %x", what, p, e, payload)
		}
	})
}

// P27.3: what Chain answers of the rest of a chain, cut and wrapped by the first hop, is what it answers of the whole.
func TestHopByHop(t *testing.T) {
	each(func(what string, keys [][]byte, nonces [][16]byte, payload []byte) {
		h := len(keys)
		if h == 1 {
			return
		}
		rest, e := reply.Chain(keys[1:], nonces[1:], payload)
		inner, e2 := cell.Cut(rest, onion.Size(h-1))
		o, e3 := reply.Wrap(keys[0], nonces[0], h, inner)
		want, e4 := cell.Pad(o)
		if e != api.OK || e2 != api.OK || e3 != api.OK || e4 != api.OK {
			t.Fatalf("%s: errors %d, %d, %d, %d", what, e, e2, e3, e4)
		}
		check(t, what, chain(keys, nonces, payload), told{List: want})
	})
}

// P27.4: Chain is route.Wrap under the keys of the way back; so what route.Wrap refuses of these, Chain refuses too.
func TestTheWayThereUnderOtherKeys(t *testing.T) {
	each(func(what string, keys [][]byte, nonces [][16]byte, payload []byte) {
		var back [][]byte
		for i, k := range keys {
			b, e := reply.Key(k, nonces[i])
			if e != api.OK || bytes.Equal(b, k) {
				t.Fatalf("%s: key %d: %x, error %d", what, i, b, e)
			}
			back = append(back, b)
		}
		want, e := route.Wrap(back, nonces, payload)
		check(t, what, chain(keys, nonces, payload), told{want, e})
		if e != api.OK {
			t.Errorf("%s: error %d", what, e)
		}
		long := append(bytes.Clone(payload), make([]byte, 49)...)
		want, e = route.Wrap(back, nonces, long)
		check(t, what+", too long", chain(keys, nonces, long), told{want, e})
		want, e = route.Wrap(back, nonces[1:], payload)
		check(t, what+", a nonce less", chain(keys, nonces[1:], payload), told{want, e})

		way, e := route.Walk(back, want)
		if want = chained(t, keys, nonces, payload); e == api.OK {
			t.Errorf("%s: a walk of nothing: %v", what, way)
		}
		way, e = route.Walk(back, want)
		if e != api.OK || !bytes.Equal(way[len(way)-1].Cell, cellOf([]byte{1, byte(len(payload))}, payload)) {
			t.Errorf("%s: walked: error %d", what, e)
		}
	})
}
