package reply_test

import (
	"bytes"
	"fmt"
	"math"
	"runtime/metrics"
	"slices"
	"sync"
	"testing"

	"churn/api"
	"churn/reply"
)

// rimmed: the list in the midst of more memory, and that memory.
func rimmed[T any](list []T, around T) (inside, all []T) {
	all = slices.Concat(slices.Repeat([]T{around}, 400), list, slices.Repeat([]T{around}, 400))
	return all[400 : 400+len(list)], all
}

// over: writes over a list and its room.
func over[T any](list []T, x T) {
	list = list[:cap(list)]
	for i := range list {
		list[i] = x
	}
}

// A handed is what a call is handed in, each list in the midst of more memory, and that memory.
type handed struct {
	keys   [][]byte
	nonces [][16]byte
	list   []byte

	outer  [][]byte
	inner  [][]byte
	beside [][16]byte
	whole  []byte
}

func handIn(keys [][]byte, nonces [][16]byte, list []byte) *handed {
	h := &handed{}
	h.keys, h.outer = rimmed(keys, []byte("around"))
	for i, key := range h.keys {
		inside, all := rimmed(key, 0xEE)
		h.keys[i], h.inner = inside, append(h.inner, all)
	}
	h.nonces, h.beside = rimmed(nonces, [16]byte{0xEE})
	h.list, h.whole = rimmed(list, 0xEE)
	return h
}

// picture: all of that memory, in other memory.
func (h *handed) picture() string {
	return fmt.Sprintf("%x %x %x %x", h.outer, h.inner, h.beside, h.whole)
}

func (h *handed) scribble() {
	for _, p := range h.inner {
		over(p, 0xAB)
	}
	over(h.outer, []byte("scribbled"))
	over(h.beside, [16]byte{0xAB})
	over(h.whole, 0xAB)
}

// An ask is one call: Key and Wrap take the first key and nonce.
type ask struct {
	name   string
	keys   [][]byte
	nonces [][16]byte
	list   []byte
	call   func(keys [][]byte, nonces [][16]byte, list []byte) told
}

func askKey(keys [][]byte, nonces [][16]byte, _ []byte) told { return key(keys[0], nonces[0]) }

func askWrap(keys [][]byte, nonces [][16]byte, list []byte) told {
	return wrap(keys[0], nonces[0], len(keys), list)
}

// asks: calls that are taken and calls that are refused.
func asks(t *testing.T) []ask {
	var all []ask
	for h := 1; h <= 8; h++ {
		keys, nonces := hops(h, byte(h+100))
		c := chained(t, keys, nonces, []byte("secret"))
		wrong := at(keys, h-1, some(33, 1))
		for _, a := range []ask{
			{"Key", keys, nonces, nil, askKey},
			{"Key refused", at(keys, 0, some(33, 1)), nonces, nil, askKey},
			{"Wrap", keys, nonces, []byte("secret"), askWrap},
			{"Wrap of nothing", keys, nonces, nil, askWrap},
			{"Wrap of all that fits", keys, nonces, some(sizes[h-1]-34, 1), askWrap},
			{"Wrap refused", keys, nonces, some(sizes[h-1]-33, 1), askWrap},
			{"Chain", keys, nonces, []byte("secret"), chain},
			{"Chain of nothing", keys, nonces, nil, chain},
			{"Chain of all that fits", keys, nonces, some(48, 1), chain},
			{"Chain too long", keys, nonces, some(49, 1), chain},
			{"Chain with a nonce less", keys, nonces[1:], nil, chain},
			{"Chain with a wrong key", wrong, nonces, nil, chain},
			{"Open", keys, nonces, c, open},
			{"Open of a turned cell", keys, nonces, with(c, 17, c[17]^1), open},
			{"Open of a short cell", keys, nonces, c[:319], open},
			{"Open with another last key", at(keys, h-1, some(32, 99)), nonces, c, open},
			{"Open with a wrong key", wrong, nonces, c, open},
			{"Open with a nonce less", keys, nonces[1:], c, open},
		} {
			a.name = fmt.Sprintf("%s, %d hops", a.name, h)
			all = append(all, a)
		}
	}
	return all
}

// Rule 5: what is handed in stays as it is, with what lies about it and in its spare room.
func TestWhatIsHandedInStays(t *testing.T) {
	for _, a := range asks(t) {
		h := handIn(a.keys, a.nonces, a.list)
		before := h.picture()
		got := a.call(h.keys, h.nonces, h.list)
		if h.picture() != before {
			t.Errorf("%s: a list has changed", a.name)
		}
		check(t, a.name+", from pieces", got, a.call(a.keys, a.nonces, a.list))
	}
}

// Rule 5: an answer is the caller's own: written over, room and all, and appended to, it changes neither what was handed in nor another answer; and what was handed in isn't kept.
func TestAnswersAreNew(t *testing.T) {
	for _, a := range asks(t) {
		want := a.call(a.keys, a.nonces, a.list)
		want.List = bytes.Clone(want.List)
		h := handIn(a.keys, a.nonces, a.list)
		before := h.picture()
		first, second := a.call(h.keys, h.nonces, h.list), a.call(h.keys, h.nonces, h.list)
		_ = append(first.List, some(400, 1)...)
		over(first.List, 0xCD)
		if h.picture() != before {
			t.Errorf("%s: an answer written over shows in what was handed in", a.name)
		}
		check(t, a.name+", another answer written over", second, want)
		h.scribble()
		check(t, a.name+", what was handed in written over", second, want)
		check(t, a.name+", asked once more", a.call(a.keys, a.nonces, a.list), want)
	}
}

// Rule 5: a key that Key answers and one that goes into a layer are not one memory: changed, it changes no later layer.
func TestKeysAreNew(t *testing.T) {
	keys, nonces := hops(2, 120)
	for range 3 {
		for i := range keys {
			over(key(keys[i], nonces[i]).List, 0xCD)
		}
		check(t, "Chain", chain(keys, nonces, []byte("x")), definedChain(keys, nonces, []byte("x")))
	}
}

// Rule 5: lists that lie in one another's memory tell nothing: keys one in the other, a payload in a key, a cell about the keys.
func TestListsInOneMemory(t *testing.T) {
	for h := 1; h <= 8; h++ {
		all := some(320, byte(h))
		before := bytes.Clone(all)
		var keys, same [][]byte
		for i := range h {
			keys, same = append(keys, all[5*i:5*i+32]), append(same, before[5*i:5*i+32])
		}
		_, nonces := hops(h, 1)
		c := chain(keys, nonces, all[20:60])
		check(t, "Chain", c, definedChain(same, nonces, before[20:60]))
		check(t, "Wrap", wrap(keys[0], nonces[0], h, all[:48]), definedWrap(same[0], nonces[0], h, before[:48]))
		check(t, "Open", open(keys, nonces, c.List), told{List: before[20:60]})
		check(t, "Open of the list of the keys", open(keys, nonces, all), definedOpen(same, nonces, before))
		if !bytes.Equal(all, before) {
			t.Errorf("%d hops: the list has changed", h)
		}
		// The keys lie in the cell itself.
		in := bytes.Clone(c.List)
		for i := range h {
			same[i] = in[i : i+32]
		}
		opened := open(same, nonces, in)
		check(t, "Open with keys in the cell", opened, definedOpen(same, nonces, bytes.Clone(in)))
		if !bytes.Equal(in, c.List) {
			t.Errorf("%d hops: the cell has changed", h)
		}
	}
}

// Rule 4: nil and empty are one and the same.
func TestNilIsEmpty(t *testing.T) {
	keys, nonces := hops(2, 1)
	for _, none := range [][][]byte{nil, {}, keys[:0]} {
		for _, no := range [][][16]byte{nil, {}, nonces[:0]} {
			for _, list := range [][]byte{nil, {}, cellOf()} {
				check(t, "Chain without hops", chain(none, no, list), told{Err: api.ErrChain})
				check(t, "Open without hops", open(none, no, list), told{Err: api.ErrChain})
			}
		}
	}
	for _, empty := range [][]byte{nil, {}, make([]byte, 0, 99), some(48, 1)[:0]} {
		check(t, "Chain of no payload", chain(keys, nonces, empty), definedChain(keys, nonces, nil))
		check(t, "Wrap of nothing", wrap(keys[0], nonces[0], 2, empty), definedWrap(keys[0], nonces[0], 2, nil))
		check(t, "a key of nothing", key(empty, nonces[0]), told{Err: api.ErrArg})
		check(t, "no cell", open(keys, nonces, empty), told{Err: api.ErrSize})
	}
	if p, e := reply.Open(keys, nonces, chained(t, keys, nonces, nil)); len(p) != 0 || e != api.OK {
		t.Errorf("an empty payload: %x, error %d", p, e)
	}
}

// Rules 1 and 3: every call ends, whatever it is given, and beside an error nothing else is answered.
func TestNothingBesideAnError(t *testing.T) {
	keys, nonces := hops(9, 70)
	c := chained(t, keys[:3], nonces[:3], []byte("secret"))
	bare := func(what string, a told) {
		if a.Err != api.OK && len(a.List) != 0 {
			t.Errorf("%s: %v", what, a)
		}
	}
	for i, list := range [][][]byte{nil, keys, keys[:2], keys[:3], keys[:4], at(keys[:3], 2, nil), at(keys[:3], 2, keys[0]), at(keys[:3], 1, some(33, 1))} {
		for _, no := range [][][16]byte{nil, nonces[:2], nonces[:3], nonces} {
			for _, p := range [][]byte{nil, c, c[:319], with(c, 40, 0), with(c, 319, 1), some(48, 1), some(49, 1), some(320, 1)} {
				bare(fmt.Sprintf("Chain with list %d", i), chain(list, no, p))
				bare(fmt.Sprintf("Open with list %d", i), open(list, no, p))
			}
		}
	}
	for _, k := range append(wrongKeys(), keys[0]) {
		bare("Key", key(k, nonces[0]))
		for _, left := range []int{math.MinInt, -1, 0, 1, 8, 9, math.MaxInt} {
			for _, n := range []int{0, 49, 287} {
				bare("Wrap", wrap(k, nonces[0], left, make([]byte, n)))
			}
		}
	}
}

// Rule 6: asked in another order, with other calls between, each call answers the same.
func TestNothingIsKept(t *testing.T) {
	all := asks(t)
	var wants []told
	for _, a := range all {
		wants = append(wants, a.call(a.keys, a.nonces, a.list))
	}
	for i, a := range slices.Backward(all) {
		check(t, a.name, a.call(a.keys, a.nonces, a.list), wants[i])
	}
}

// Rule 6: many calls at one time, over the same lists, answer as one alone does.
func TestManyAtOneTime(t *testing.T) {
	var done sync.WaitGroup
	for _, a := range asks(t) {
		want := a.call(a.keys, a.nonces, a.list)
		for range 3 {
			done.Go(func() { check(t, a.name, a.call(a.keys, a.nonces, a.list), want) })
		}
	}
	done.Wait()
}

// begun: how many goroutines the program has begun so far.
func begun() int {
	sample := []metrics.Sample{{Name: "/sched/goroutines-created:goroutines"}}
	metrics.Read(sample)
	if sample[0].Value.Kind() != metrics.KindUint64 {
		return -1
	}
	return int(sample[0].Value.Uint64())
}

// Rule 7: no call begins a goroutine. The runtime begins some of its own now and then, so one count of several must be 0.
func TestNoGoroutines(t *testing.T) {
	if begun() < 0 {
		t.Skip("the runtime doesn't tell how many goroutines were begun")
	}
	for _, a := range asks(t) {
		var counts []int
		for range 10 {
			before := begun()
			a.call(a.keys, a.nonces, a.list)
			counts = append(counts, begun()-before)
		}
		if !slices.Contains(counts, 0) {
			t.Errorf("%s: %v goroutines begun", a.name, counts)
		}
	}
}
