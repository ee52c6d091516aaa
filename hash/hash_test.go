package hash_test

import (
	"bytes"
	"crypto/sha256"
	"encoding/hex"
	"fmt"
	"math/rand"
	"reflect"
	"sync"
	"testing"

	"churn/hash"
)

// some: n bytes, no two neighbours alike, other ones for another seed.
func some(n int, seed byte) []byte {
	p := make([]byte, n)
	for i := range p {
		p[i] = byte(i*31+i/256*7) ^ seed
	}
	return p
}

func check(t *testing.T, what string, got [32]byte, of []byte) {
	t.Helper()
	if want := sha256.Sum256(of); got != want {
		t.Errorf("%s: %x; want %x", what, got, want)
	}
}

// P1.1: digests that are written down elsewhere; the chapter's examples first.
func TestKnownDigests(t *testing.T) {
	for _, k := range []struct {
		text []byte
		want string
	}{
		{nil, "e3b0c44298fc1c149afbf4c8996fb92427ae41e4649b934ca495991b7852b855"},
		{[]byte{}, "e3b0c44298fc1c149afbf4c8996fb92427ae41e4649b934ca495991b7852b855"},
		{[]byte("abc"), "ba7816bf8f01cfea414140de5dae2223b00361a396177a9cb410ff61f20015ad"},
		{[]byte("a"), "ca978112ca1bbdcafac231b39a23dc4da786eff8147c4e72b9807785afee48bb"},
		{[]byte("abcdbcdecdefdefgefghfghighijhijkijkljklmklmnlmnomnopnopq"), "248d6a61d20638b8e5c026930c3e6039a33ce45964ff2167f6ecedd419db06c1"},
		{[]byte("abcdefghbcdefghicdefghijdefghijkefghijklfghijklmghijklmnhijklmnoijklmnopjklmnopqklmnopqrlmnopqrsmnopqrstnopqrstu"), "cf5b16a778af8380036ce59e7b0492370b249b11e8f07a51afac45037afee9d1"},
		{bytes.Repeat([]byte("a"), 1000000), "cdc76e5c9914fb9281a1c7e284d73e67f1809a48a497200e046d39ccc7112cd0"},
	} {
		got := hash.Sum(k.text)
		if hex.EncodeToString(got[:]) != k.want {
			t.Errorf("%d bytes: %x; want %s", len(k.text), got, k.want)
		}
	}
}

// P1.1: every length about a block's edges (0, 1, 55, 56, 57, 63, 64, 65, 119, 120, 127, 128 among them), with bytes of all kinds.
func TestEveryShortLength(t *testing.T) {
	for n := range 600 {
		check(t, fmt.Sprint(n, " noughts"), hash.Sum(make([]byte, n)), make([]byte, n))
		ones := bytes.Repeat([]byte{0xff}, n)
		check(t, fmt.Sprint(n, " bytes ff"), hash.Sum(ones), ones)
		pads := bytes.Repeat([]byte{0x80}, n)
		check(t, fmt.Sprint(n, " bytes 80"), hash.Sum(pads), pads)
		mixed := some(n, byte(n))
		check(t, fmt.Sprint(n, " bytes"), hash.Sum(mixed), mixed)
	}
}

// P1.1: longer lists, about the powers of two where a number's next byte comes in.
func TestLongLengths(t *testing.T) {
	for _, near := range []int{1 << 10, 1 << 13, 1 << 16, 1 << 20, 1 << 21} {
		for n := near - 9; n <= near+9; n += 3 {
			p := some(n, 5)
			check(t, fmt.Sprint(n, " bytes"), hash.Sum(p), p)
		}
	}
}

// P1.1: more than 2^32 bits, so that all of the length's number counts, not its lower half alone.
func TestLengthBeyond32Bits(t *testing.T) {
	if testing.Short() {
		t.Skip("takes seconds")
	}
	piece := some(1<<20, 9)
	h, ref := hash.New(), sha256.New()
	for range 513 {
		h = h.Add(piece)
		ref.Write(piece)
	}
	if got := h.Sum(); !bytes.Equal(got[:], ref.Sum(nil)) {
		t.Errorf("%x; want %x", got, ref.Sum(nil))
	}
}

// P1.1: each bit of what is taken in shows.
func TestEveryBitCounts(t *testing.T) {
	seen := map[[32]byte]int{}
	p := some(130, 3)
	seen[hash.Sum(p)] = -1
	for bit := range 8 * len(p) {
		p[bit/8] ^= 1 << (bit % 8)
		got := hash.Sum(p)
		check(t, fmt.Sprint("bit ", bit), got, p)
		if other, ok := seen[got]; ok {
			t.Errorf("bits %d and %d give one digest", bit, other)
		}
		seen[got] = bit
		p[bit/8] ^= 1 << (bit % 8)
	}
}

// P1.2: the chapter's example.
func TestPiecesExample(t *testing.T) {
	got := hash.New().Add([]byte("a")).Add([]byte("")).Add([]byte("bc")).Sum()
	check(t, "a, nothing, bc", got, []byte("abc"))
}

// P1.2: every cut into two, and into three, with nil and empty pieces between, and Sum on the way.
func TestEveryCut(t *testing.T) {
	for _, n := range []int{0, 1, 55, 56, 57, 63, 64, 65, 119, 120, 127, 128, 129, 192, 200} {
		p := some(n, 1)
		for i := 0; i <= n; i++ {
			first := hash.New().Add(nil).Add(p[:i]).Add([]byte{})
			check(t, fmt.Sprintf("%d of %d", i, n), first.Sum(), p[:i])
			check(t, fmt.Sprintf("%d of %d, and the rest", i, n), first.Add(p[i:]).Add(nil).Sum(), p)
			for j := i; j <= n; j += 7 {
				check(t, fmt.Sprintf("%d cut at %d and %d", n, i, j), first.Add(p[i:j]).Add(p[j:]).Sum(), p)
			}
		}
	}
}

// P1.2: pieces of one size each, from 1 byte to more than two blocks.
func TestEvenPieces(t *testing.T) {
	p := some(1000, 2)
	for size := 1; size <= 130; size++ {
		h := hash.New()
		for i := 0; i < len(p); i += size {
			h = h.Add(p[i:min(len(p), i+size)])
			check(t, fmt.Sprintf("pieces of %d, to %d", size, i), h.Sum(), p[:min(len(p), i+size)])
		}
		check(t, fmt.Sprint("pieces of ", size), h.Sum(), p)
	}
}

// P1.2: cuts without a rule, empty pieces among them; whether Sum is asked on the way does not show.
func TestUnevenPieces(t *testing.T) {
	r := rand.New(rand.NewSource(12))
	for range 400 {
		p := make([]byte, r.Intn(700))
		r.Read(p)
		asked, unasked := hash.New(), hash.New()
		for at := 0; at < len(p); {
			end := min(len(p), at+r.Intn(150)*r.Intn(2))
			asked, unasked = asked.Add(p[at:end]), unasked.Add(p[at:end])
			check(t, "on the way", asked.Sum(), p[:end])
			check(t, "on the way, again", asked.Sum(), p[:end])
			at = end
		}
		check(t, "asked", asked.Sum(), p)
		check(t, "not asked", unasked.Sum(), p)
	}
}

// P1.3: the zero Hash is New(): as a variable, a field, a place of an array and what a map does not hold.
func TestZeroHashIsNew(t *testing.T) {
	var zero hash.Hash
	var list [2]hash.Hash
	for _, h := range []hash.Hash{zero, hash.New(), {}, list[1], map[int]hash.Hash{}[7]} {
		check(t, "nothing", h.Sum(), nil)
		for _, n := range []int{0, 1, 63, 64, 65, 200} {
			check(t, fmt.Sprint(n, " bytes"), h.Add(some(n, 4)).Sum(), some(n, 4))
		}
	}
}

// P1.3: h stays as it is, wherever in a block it stands, when others are made of it.
func TestBranches(t *testing.T) {
	for n := range 140 {
		trunk := some(n, 6)
		h := hash.New().Add(trunk)
		for m := range 140 {
			branch := some(m, 7)
			check(t, fmt.Sprintf("%d and %d", n, m), h.Add(branch).Sum(), append(append([]byte{}, trunk...), branch...))
		}
		check(t, fmt.Sprint(n, " bytes, after its branches"), h.Sum(), trunk)
	}
}

// P1.3: scripts of copies, Adds and Sums over many hashes, each held against its own bytes.
func TestScripts(t *testing.T) {
	r := rand.New(rand.NewSource(13))
	for range 20 {
		hashes := make([]hash.Hash, 12)
		texts := make([][]byte, len(hashes))
		for step := range 600 {
			i, j := r.Intn(len(hashes)), r.Intn(len(hashes))
			switch r.Intn(4) {
			case 0:
				hashes[i], texts[i] = hashes[j], append([]byte{}, texts[j]...)
			case 1:
				p := some(r.Intn(150), byte(step))
				hashes[i], texts[i] = hashes[i].Add(p), append(texts[i], p...)
			case 2:
				p := some(r.Intn(150), byte(step))
				hashes[i], texts[i] = hashes[j].Add(p), append(append([]byte{}, texts[j]...), p...)
			default:
				check(t, fmt.Sprint("step ", step), hashes[i].Sum(), texts[i])
			}
		}
		for i, h := range hashes {
			check(t, fmt.Sprint("hash ", i, " at the end"), h.Sum(), texts[i])
		}
	}
}

// P1.3: p is not changed, its spare room included.
func TestHandedInStays(t *testing.T) {
	for n := range 200 {
		room := some(n+150, 8)
		for _, have := range []int{0, 1, 50, 63} {
			h := hash.New().Add(some(have, 2)).Add(room[10 : 10+n])
			h.Sum()
		}
		hash.Sum(room[10 : 10+n])
		if !bytes.Equal(room, some(n+150, 8)) {
			t.Fatalf("%d bytes: what was handed in, or what lies about it, has changed", n)
		}
	}
}

// P1.3: p is not kept: changed afterwards, it changes no answer.
func TestHandedInIsNotKept(t *testing.T) {
	for n := range 200 {
		p, q := some(n, 8), some(70, 9)
		h := hash.New().Add(p)
		then := h.Add(q)
		clear(p)
		clear(q)
		check(t, fmt.Sprint(n, " bytes"), h.Sum(), some(n, 8))
		check(t, fmt.Sprint(n, " bytes and 70"), then.Sum(), append(some(n, 8), some(70, 9)...))
	}
}

// P1.3: a digest that was answered is the caller's own.
func TestDigestIsNew(t *testing.T) {
	h := hash.New().Add([]byte("abc"))
	d := h.Sum()
	clear(d[:])
	check(t, "after the digest was changed", h.Sum(), []byte("abc"))
}

// Rule 6: calls know nothing of one another, at one time either.
func TestManyAtOneTime(t *testing.T) {
	shared := hash.New().Add(some(77, 1))
	var done sync.WaitGroup
	for i := range 8 {
		done.Go(func() {
			for n := range 300 {
				check(t, "by many", shared.Add(some(n, byte(i))).Sum(), append(some(77, 1), some(n, byte(i))...))
			}
		})
	}
	done.Wait()
	check(t, "the shared one", shared.Sum(), some(77, 1))
}

// The document's Ways: a Hash is arrays and numbers all through, so that a copy shares nothing.
func TestHashIsAllValue(t *testing.T) {
	var look func(v reflect.Type)
	look = func(v reflect.Type) {
		switch v.Kind() {
		case reflect.Struct:
			for i := range v.NumField() {
				look(v.Field(i).Type)
			}
		case reflect.Array:
			look(v.Elem())
		case reflect.Pointer, reflect.Slice, reflect.Map, reflect.Interface, reflect.Func, reflect.Chan, reflect.String, reflect.UnsafePointer:
			t.Errorf("a Hash has a %v in it", v)
		}
	}
	look(reflect.TypeFor[hash.Hash]())
}

func ExampleSum() {
	fmt.Printf("%x\n", hash.Sum([]byte("abc")))
	// Output: ba7816bf8f01cfea414140de5dae2223b00361a396177a9cb410ff61f20015ad
}

func ExampleHash_Add() {
	a := hash.New().Add([]byte("a"))
	fmt.Printf("%x\n", a.Add([]byte("bc")).Sum())
	fmt.Printf("%x\n", a.Sum())
	// Output:
	// ba7816bf8f01cfea414140de5dae2223b00361a396177a9cb410ff61f20015ad
	// ca978112ca1bbdcafac231b39a23dc4da786eff8147c4e72b9807785afee48bb
}
