package reply_test

import (
	"bytes"
	"fmt"
	"math/rand"
	"slices"
	"testing"

	"churn/api"
	"churn/cell"
	"churn/onion"
)

// P27.1: Chain of 1 to MaxHops keys and payloads of each length, past the limit too.
func TestChainEveryLength(t *testing.T) {
	for h := 1; h <= 8; h++ {
		keys, nonces := hops(h, byte(3*h))
		for n := range 52 {
			payload := some(n, byte(n+h))
			what := fmt.Sprintf("%d hops, %d bytes", h, n)
			got := chain(keys, nonces, payload)
			check(t, what, got, definedChain(keys, nonces, payload))
			if n > 48 {
				check(t, what, got, told{Err: api.ErrLong})
				continue
			}
			checkOpen(t, what, keys, nonces, got.List, told{List: payload})
		}
	}
}

// P27.1: how many keys and nonces there are is looked at ahead of all else, by Chain and by Open.
func TestChainsOfAnotherLength(t *testing.T) {
	keys, nonces := hops(9, 1)
	for _, list := range [][]byte{nil, some(48, 1), some(49, 1), cellOf(), make([]byte, 65536)} {
		for k := range 10 {
			for n := range 10 {
				for _, ks := range [][][]byte{keys[:k], make([][]byte, k), slices.Repeat([][]byte{some(33, 1)}, k)} {
					what := fmt.Sprintf("%d keys and %d nonces, %d bytes", k, n, len(list))
					got, opened := chain(ks, nonces[:n], list), open(ks, nonces[:n], list)
					check(t, "Chain of "+what, got, definedChain(ks, nonces[:n], list))
					check(t, "Open with "+what, opened, definedOpen(ks, nonces[:n], list))
					if wrong := k != n || k == 0 || k == 9; wrong != (got.Err == api.ErrChain) || wrong != (opened.Err == api.ErrChain) {
						t.Errorf("%s: %v and %v", what, got, opened)
					}
				}
			}
		}
		for _, n := range []int{9, 10, 16, 255, 256, 257, 264, 65536, 65537} {
			many, more := slices.Repeat(keys[:1], n), make([][16]byte, n)
			for i, c := range []struct {
				keys   [][]byte
				nonces [][16]byte
			}{{many, more}, {many, nonces[:1]}, {keys[:1], more}, {make([][]byte, n), more}} {
				check(t, fmt.Sprintf("Chain %d of %d", i, n), chain(c.keys, c.nonces, list), told{Err: api.ErrChain})
				check(t, fmt.Sprintf("Open %d of %d", i, n), open(c.keys, c.nonces, list), told{Err: api.ErrChain})
			}
		}
	}
}

// P27.1: a key that hasn't 32 bytes at each place of each chain, ahead of a payload that is too long, and of anything about the cell.
func TestWrongKeysOfChains(t *testing.T) {
	for h := 1; h <= 8; h++ {
		keys, nonces := hops(h, byte(h))
		c := chained(t, keys, nonces, []byte("secret"))
		for i := range h {
			for _, wrong := range wrongKeys() {
				bad := at(keys, i, wrong)
				what := fmt.Sprintf("%d hops, a key of %d bytes at %d", h, len(wrong), i)
				for _, n := range []int{0, 48, 49, 1000} {
					check(t, fmt.Sprintf("%s, %d bytes", what, n), chain(bad, nonces, make([]byte, n)), told{Err: api.ErrArg})
				}
				for _, cell := range [][]byte{c, nil, c[:319], filled(321, c), with(c, 0, c[0]^1), with(c, 319, c[319]^1), cellOf()} {
					checkRefused(t, fmt.Sprintf("%s, a cell of %d bytes", what, len(cell)), bad, nonces, cell, api.ErrArg)
				}
			}
		}
		two := at(at(keys, 0, some(31, 1)), h-1, some(33, 1))
		check(t, "two wrong keys", chain(two, nonces, nil), told{Err: api.ErrArg})
		checkRefused(t, "two wrong keys", two, nonces, c, api.ErrArg)
	}
}

// P27.1: payloads past the limit, though outer layers would have room for them.
func TestLongPayloads(t *testing.T) {
	for h := 1; h <= 8; h++ {
		keys, nonces := hops(h, byte(h))
		for _, n := range []int{49, 50, 82, 116, 256, 286, 287, 320, 321, 256 + 48, 65536, 65536 + 48, 1 << 20} {
			check(t, fmt.Sprintf("%d hops, %d bytes", h, n), chain(keys, nonces, make([]byte, n)), told{Err: api.ErrLong})
		}
	}
}

// P27.1: the cell hangs on each byte of each key and of each nonce, on their order and on the payload.
func TestChainHangsOnAll(t *testing.T) {
	keys, nonces := hops(3, 60)
	seen, count := map[string]int{}, 0
	note := func(keys [][]byte, nonces [][16]byte, payload []byte) {
		seen[string(chained(t, keys, nonces, payload))]++
		count++
	}
	note(keys, nonces, []byte("all"))
	for i := range 3 {
		for j := range 32 {
			note(at(keys, i, with(keys[i], j, keys[i][j]^1)), nonces, []byte("all"))
		}
		for j := range 16 {
			note(keys, at(nonces, i, [16]byte(with(nonces[i][:], j, nonces[i][j]^1))), []byte("all"))
		}
	}
	note([][]byte{keys[1], keys[0], keys[2]}, nonces, []byte("all"))
	note([][]byte{keys[2], keys[1], keys[0]}, nonces, []byte("all"))
	note(keys, [][16]byte{nonces[0], nonces[2], nonces[1]}, []byte("all"))
	note(keys, nonces, []byte("al"))
	note(keys, nonces, []byte("all\x00"))
	note(keys[:2], nonces[:2], []byte("all"))
	if len(seen) != count {
		t.Errorf("%d cells of %d chains", len(seen), count)
	}
}

// P27.1: each byte of the cell turned, by one bit and by several: the first layer's tag refuses, or the noughts behind the onion.
func TestTurnedBytes(t *testing.T) {
	for h := 1; h <= 8; h++ {
		keys, nonces := hops(h, byte(h+40))
		c := chained(t, keys, nonces, []byte("secret"))
		for i := range 320 {
			want := api.ErrTag
			if i >= sizes[h-1] {
				want = api.ErrPad
			}
			for _, turn := range []byte{1 << (i % 8), 128 >> (i % 8), 255} {
				checkRefused(t, fmt.Sprintf("%d hops, byte %d turned by %d", h, i, turn), keys, nonces, with(c, i, c[i]^turn), want)
			}
		}
	}
}

// P27.1: every other byte at some places of a cell.
func TestEveryOtherByte(t *testing.T) {
	keys, nonces := hops(2, 41)
	c := chained(t, keys, nonces, []byte("secret"))
	for _, i := range []int{0, 15, 16, 31, 32, 33, 115, 116, 319} {
		want := api.ErrTag
		if i >= 116 {
			want = api.ErrPad
		}
		for x := range 256 {
			if byte(x) != c[i] {
				checkRefused(t, fmt.Sprintf("%d at byte %d", x, i), keys, nonces, with(c, i, byte(x)), want)
			}
		}
	}
}

// P27.1: cells of another size, whatever they hold.
func TestCellsOfAnotherSize(t *testing.T) {
	for h := 1; h <= 8; h++ {
		keys, nonces := hops(h, byte(h+50))
		c := chained(t, keys, nonces, []byte("secret"))
		for _, n := range []int{0, 1, 32, 82, sizes[h-1] - 1, 256, 318, 319} {
			checkRefused(t, fmt.Sprintf("%d hops, %d bytes", h, n), keys, nonces, c[:n], api.ErrSize)
			checkRefused(t, fmt.Sprintf("%d hops, %d bytes without a rule", h, n), keys, nonces, some(n, 1), api.ErrSize)
		}
		for _, more := range []int{1, 2, 34, 256, 320, 65536} {
			checkRefused(t, fmt.Sprintf("%d hops, %d bytes more", h, more), keys, nonces, filled(320+more, c), api.ErrSize)
			checkRefused(t, fmt.Sprintf("%d hops, %d bytes more", h, more), keys, nonces, some(320+more, 1), api.ErrSize)
		}
	}
}

// P27.1: noughts, and noise: with noughts behind it as an onion has them, and without.
func TestNoughtsAndNoise(t *testing.T) {
	r := rand.New(rand.NewSource(273))
	for h := 1; h <= 8; h++ {
		keys, nonces := hops(h, byte(h+55))
		checkRefused(t, fmt.Sprintf("%d hops, noughts", h), keys, nonces, cellOf(), api.ErrTag)
		for range 50 {
			noise := make([]byte, 320)
			r.Read(noise)
			checkRefused(t, fmt.Sprintf("%d hops, noise in the onion", h), keys, nonces, cellOf(noise[:sizes[h-1]]), api.ErrTag)
			want := api.ErrTag
			if h < 8 {
				want = api.ErrPad
			}
			checkRefused(t, fmt.Sprintf("%d hops, noise", h), keys, nonces, with(noise, 319, 7), want)
			checkRefused(t, fmt.Sprintf("%d hops, the right nonce ahead of noise", h), keys, nonces, cellOf(nonces[0][:], noise[16:sizes[h-1]]), api.ErrTag)
		}
	}
}

// P27.1: another key or nonce at one place, or others in their order: the layer that was wrapped otherwise refuses.
func TestOtherKeysAndNonces(t *testing.T) {
	for h := 1; h <= 8; h++ {
		keys, nonces := hops(h, byte(h+20))
		c := chained(t, keys, nonces, []byte("secret"))
		for i := range h {
			for _, other := range [][]byte{with(keys[i], 0, keys[i][0]^1), with(keys[i], 31, keys[i][31]^128), make([]byte, 32), backOf(keys[i], nonces[i])} {
				checkRefused(t, fmt.Sprintf("%d hops, another key at %d", h, i), at(keys, i, other), nonces, c, api.ErrTag)
			}
			for _, other := range [][]byte{with(nonces[i][:], 0, nonces[i][0]^1), with(nonces[i][:], 15, nonces[i][15]^128), make([]byte, 16)} {
				checkRefused(t, fmt.Sprintf("%d hops, another nonce at %d", h, i), keys, at(nonces, i, [16]byte(other)), c, api.ErrTag)
			}
			if j := (i + 1) % h; j != i {
				ks, ns := at(at(keys, i, keys[j]), j, keys[i]), at(at(nonces, i, nonces[j]), j, nonces[i])
				what := fmt.Sprintf("%d hops, %d and %d in each other's place", h, i, j)
				checkRefused(t, what+", keys", ks, nonces, c, api.ErrTag)
				checkRefused(t, what+", nonces", keys, ns, c, api.ErrTag)
				checkRefused(t, what+", both", ks, ns, c, api.ErrTag)
			}
		}
		ks, ns := slices.Clone(keys), slices.Clone(nonces)
		slices.Reverse(ks)
		slices.Reverse(ns)
		if h > 1 {
			checkRefused(t, fmt.Sprintf("%d hops backwards", h), ks, ns, c, api.ErrTag)
		}
	}
}

// P27.1: fewer or more hops than the cell was wrapped by, from either end of the chain.
func TestAnotherNumberOfHops(t *testing.T) {
	keys, nonces := hops(8, 90)
	for h := 1; h <= 8; h++ {
		c := chained(t, keys[:h], nonces[:h], []byte("secret"))
		for n := 1; n <= 8; n++ {
			switch {
			case n < h:
				checkRefused(t, fmt.Sprintf("by %d hops, opened with %d", h, n), keys[:n], nonces[:n], c, api.ErrPad)
				checkRefused(t, fmt.Sprintf("by %d hops, opened with the last %d", h, n), keys[h-n:h], nonces[h-n:h], c, api.ErrPad)
			case n > h:
				checkRefused(t, fmt.Sprintf("by %d hops, opened with %d", h, n), keys[:n], nonces[:n], c, api.ErrTag)
			}
		}
	}
}

// P27.1: each hop's layer is wrong while those about it are right, with each error that can be met there.
func TestEachLayerRefuses(t *testing.T) {
	for h := 1; h <= 8; h++ {
		keys, nonces := hops(h, byte(h+60))
		for i := range h {
			left, back := h-i, backOf(keys[i], nonces[i])
			good := bytes.Clone(chained(t, keys[i:], nonces[i:], []byte("secret"))[:sizes[left-1]])
			room := sizes[left-1] - 34
			bad := map[string]api.Errno{
				string(with(good, 0, good[0]^1)):                                              api.ErrTag,
				string(with(good, len(good)-1, good[len(good)-1]^1)):                          api.ErrTag,
				string(boxed(back, nonces[i], left, numbered(left, room+1, nil))):             api.ErrBox,
				string(boxed(back, nonces[i], left, numbered(left, 0xffff, nil))):             api.ErrBox,
				string(boxed(back, nonces[i], left, with(numbered(left, 3, nil), room+1, 1))): api.ErrBox,
				string(layer(keys[i], nonces[i], left, good[:40])):                            api.ErrTag, // the key of the way there
				string(layer(back, nonces[i], left%8+1, nil)[:82]):                            api.ErrTag,
				string(make([]byte, 82)):                                                      api.ErrTag,
				"":                                                                            api.ErrTag,
			}
			for inner, e := range bad {
				c := cellOf(layers(keys, nonces, i, []byte(inner)))
				checkRefused(t, fmt.Sprintf("%d hops, at hop %d, %d bytes", h, i, len(inner)), keys, nonces, c, e)
			}
			checkOpen(t, fmt.Sprintf("%d hops, nothing wrong at hop %d", h, i), keys, nonces, cellOf(layers(keys, nonces, i, good)), told{List: []byte("secret")})
		}
	}
}

// P27.1: which nonce stands in a layer isn't looked at: it is read there, and the key of the way back hangs on the nonce that is handed in.
func TestAnotherNonceInALayer(t *testing.T) {
	for h := 1; h <= 8; h++ {
		keys, nonces := hops(h, byte(h+70))
		for i := range h {
			var o []byte = []byte("found")
			for j := h - 1; j >= 0; j-- {
				in := nonces[j]
				if i == j {
					in = [16]byte(some(16, 99))
				}
				o = layer(backOf(keys[j], nonces[j]), in, h-j, o)
			}
			checkOpen(t, fmt.Sprintf("%d hops, another nonce in layer %d", h, i), keys, nonces, cellOf(o), told{List: []byte("found")})
		}
	}
}

// P27.1: a cell that the hops did not wrap for an answer: the client's own way there is refused, since its keys are others.
func TestTheWayThereIsRefused(t *testing.T) {
	for h := 1; h <= 8; h++ {
		keys, nonces := hops(h, byte(h+80))
		o := []byte("there")
		for i := h - 1; i >= 0; i-- {
			o = layer(keys[i], nonces[i], h-i, o)
		}
		checkRefused(t, fmt.Sprintf("%d hops", h), keys, nonces, cellOf(o), api.ErrTag)
	}
}

// P27.1: one nonce twice in a chain, one key twice, both, and bytes of one kind.
func TestHopsAlike(t *testing.T) {
	noughts, ones := make([]byte, 32), bytes.Repeat([]byte{255}, 32)
	for h := 1; h <= 8; h++ {
		keys, nonces := hops(h, 50)
		type pair struct {
			keys   [][]byte
			nonces [][16]byte
		}
		all := []pair{
			{slices.Repeat(keys[:1], h), nonces},
			{keys, slices.Repeat(nonces[:1], h)},
			{slices.Repeat(keys[:1], h), slices.Repeat(nonces[:1], h)},
			{slices.Repeat([][]byte{noughts}, h), make([][16]byte, h)},
			{slices.Repeat([][]byte{ones}, h), slices.Repeat([][16]byte{[16]byte(ones[:16])}, h)},
		}
		for i := range h {
			for j := range i {
				all = append(all, pair{keys, at(nonces, i, nonces[j])}, pair{at(keys, i, keys[j]), nonces}, pair{at(keys, i, keys[j]), at(nonces, i, nonces[j])})
			}
		}
		for i, c := range all {
			what := fmt.Sprintf("%d hops, chain %d", h, i)
			got := chain(c.keys, c.nonces, []byte("alike"))
			check(t, what, got, definedChain(c.keys, c.nonces, []byte("alike")))
			checkOpen(t, what, c.keys, c.nonces, got.List, told{List: []byte("alike")})
		}
	}
}

// P27.1: Chain and Open by the steps of the chapter over the layers below.
func TestOverTheLayersBelow(t *testing.T) {
	for h := 1; h <= 8; h++ {
		keys, nonces := hops(h, byte(h+35))
		for i, payload := range payloads() {
			what := fmt.Sprintf("%d hops, payload %d", h, i)
			o := payload
			for i := h - 1; i >= 0; i-- {
				a := wrap(keys[i], nonces[i], h-i, o)
				if o = a.List; a.Err != api.OK || len(o) != sizes[h-i-1] {
					t.Fatalf("%s: %v", what, a)
				}
			}
			c, _ := cell.Pad(o)
			check(t, what, chain(keys, nonces, payload), told{List: c})
			for i := range h {
				p, e := onion.Peel(key(keys[i], nonces[i]).List, h-i, c)
				if e != api.OK {
					t.Fatalf("%s: error %d at hop %d", what, e, i)
				}
				c = p.Cell
			}
			p, yes, e := cell.Open(c)
			if !yes || e != api.OK || !bytes.Equal(p, payload) {
				t.Errorf("%s: %x, %v, error %d", what, p, yes, e)
			}
		}
	}
}

// P27.1: chains, payloads and cells without a rule: right ones, and such as are wrong somewhere.
func TestAnyChain(t *testing.T) {
	r := rand.New(rand.NewSource(274))
	for range 1500 {
		h := 1 + r.Intn(8)
		keys, nonces := anyHops(r, h)
		payload := make([]byte, r.Intn(50))
		r.Read(payload)
		got := chain(keys, nonces, payload)
		check(t, "Chain", got, definedChain(keys, nonces, payload))
		if got.Err != api.OK {
			continue
		}
		check(t, "Open", open(keys, nonces, got.List), told{List: payload})
		c := with(got.List, r.Intn(320), byte(r.Intn(256)))
		i := r.Intn(h)
		switch r.Intn(5) {
		case 0:
			keys[i] = with(keys[i], r.Intn(32), byte(r.Intn(256)))
		case 1:
			nonces[i][r.Intn(16)] ^= byte(r.Intn(2))
		case 2:
			keys[i] = keys[i][:r.Intn(33)]
		case 3:
			c = c[:320-r.Intn(2)]
		}
		check(t, "Open of what may be wrong", open(keys, nonces, c), definedOpen(keys, nonces, c))
	}
}
