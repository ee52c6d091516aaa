package block_test

import (
	"bytes"
	"crypto/aes"
	"crypto/cipher"
	"encoding/hex"
	"fmt"
	"math"
	"math/big"
	"math/rand"
	"sync"
	"testing"

	"churn/api"
	"churn/block"
	"churn/field"
)

// FIPS 197's and SP 800-38A's key, and the latter's start of a stream.
const (
	knownKey   = "2b7e151628aed2a6abf7158809cf4f3c"
	knownStart = "f0f1f2f3f4f5f6f7f8f9fafbfcfdfeff"
)

var (
	noughts = [16]byte{}
	highest = [16]byte(bytes.Repeat([]byte{0xFF}, 16))
)

// lengths are numbers of bytes about a block's edges, some blocks' and the limit's.
var lengths = []int{0, 1, 2, 15, 16, 17, 31, 32, 33, 47, 48, 49, 100, 255, 256, 257, 320, 4095, 4096, 4097, api.MaxStream - 1, api.MaxStream}

func unhex(t *testing.T, s string) []byte {
	t.Helper()
	b, err := hex.DecodeString(s)
	if err != nil {
		t.Fatal(err)
	}
	return b
}

func unhex16(t *testing.T, s string) [16]byte {
	t.Helper()
	b := unhex(t, s)
	if len(b) != 16 {
		t.Fatalf("%s: %d bytes", s, len(b))
	}
	return [16]byte(b)
}

// some: n bytes, no two neighbours alike, other ones for another seed.
func some(n int, seed byte) []byte {
	p := make([]byte, n)
	for i := range p {
		p[i] = byte(i*31+i/256*7) ^ seed
	}
	return p
}

func some16(seed byte) [16]byte { return [16]byte(some(16, seed)) }

// blocks: noughts, all ones, each bit alone, and many of any bytes.
func blocks() [][16]byte {
	all := [][16]byte{noughts, highest, some16(0), some16(0xA5)}
	for i := range 128 {
		var b [16]byte
		b[i/8] = 1 << (i % 8)
		all = append(all, b)
	}
	r := rand.New(rand.NewSource(4))
	for range 60 {
		var b [16]byte
		r.Read(b[:])
		all = append(all, b)
	}
	return all
}

// definedKeys: the chapter's words, by the 44 words of four bytes.
func definedKeys(key [16]byte) [11][16]byte {
	var w [44][4]byte
	constant := byte(1)
	for i := range w {
		if i < 4 {
			w[i] = [4]byte{key[4*i], key[4*i+1], key[4*i+2], key[4*i+3]}
			continue
		}
		t := w[i-1]
		if i%4 == 0 {
			t = [4]byte{field.Sub(t[1]), field.Sub(t[2]), field.Sub(t[3]), field.Sub(t[0])}
			t[0] ^= constant
			constant = field.Mul(2, constant)
		}
		for j := range t {
			w[i][j] = w[i-4][j] ^ t[j]
		}
	}
	var keys [11][16]byte
	for i := range 176 {
		keys[i/16][i%16] = w[i/4][i%4]
	}
	return keys
}

func definedXor(a, b [16]byte) [16]byte {
	for i := range a {
		a[i] ^= b[i]
	}
	return a
}

// definedColumns: each column through mix.
func definedColumns(b [16]byte, mix func([4]byte) [4]byte) [16]byte {
	var out [16]byte
	for c := range 4 {
		column := mix([4]byte{b[4*c], b[4*c+1], b[4*c+2], b[4*c+3]})
		for r := range 4 {
			out[4*c+r] = column[r]
		}
	}
	return out
}

// definedEncryption: the chapter's words, under any eleven round keys.
func definedEncryption(keys [11][16]byte, b [16]byte) [16]byte {
	b = definedXor(b, keys[0])
	for i := 1; i <= 10; i++ {
		var next [16]byte
		for r := range 4 {
			for c := range 4 {
				next[r+4*c] = field.Sub(b[r+4*((c+r)%4)])
			}
		}
		if i != 10 {
			next = definedColumns(next, field.Column)
		}
		b = definedXor(next, keys[i])
	}
	return b
}

// definedDecryption: the chapter's words, under any eleven round keys.
func definedDecryption(keys [11][16]byte, b [16]byte) [16]byte {
	b = definedXor(b, keys[10])
	for i := 10; i >= 1; i-- {
		var next [16]byte
		for r := range 4 {
			for c := range 4 {
				next[r+4*((c+r)%4)] = field.Unsub(b[r+4*c])
			}
		}
		b = definedXor(next, keys[i-1])
		if i != 1 {
			b = definedColumns(b, field.Uncolumn)
		}
	}
	return b
}

// plus: start + k modulo 2^128.
func plus(start [16]byte, k int64) [16]byte {
	n := new(big.Int).SetBytes(start[:])
	n.Add(n, big.NewInt(k))
	n.Mod(n, new(big.Int).Lsh(big.NewInt(1), 128))
	var out [16]byte
	n.FillBytes(out[:])
	return out
}

// definedStream: the chapter's words: the blocks one behind the other, and then the first n bytes of them.
func definedStream(key, start [16]byte, n int) []byte {
	keys := definedKeys(key)
	var all []byte
	for k := int64(0); len(all) < n; k++ {
		b := definedEncryption(keys, plus(start, k))
		all = append(all, b[:]...)
	}
	return all[:n]
}

func libraryBlock(t *testing.T, key [16]byte) cipher.Block {
	t.Helper()
	c, err := aes.NewCipher(key[:])
	if err != nil {
		t.Fatal(err)
	}
	return c
}

// libraryMask: the library's counter mode, which counts modulo 2^128 too.
func libraryMask(t *testing.T, key, start [16]byte, p []byte) []byte {
	t.Helper()
	out := make([]byte, len(p))
	cipher.NewCTR(libraryBlock(t, key), start[:]).XORKeyStream(out, p)
	return out
}

func checkBlock(t *testing.T, what string, got, want [16]byte) {
	t.Helper()
	if got != want {
		t.Errorf("%s = %x; want %x", what, got, want)
	}
}

func checkBytes(t *testing.T, what string, got, want []byte) {
	t.Helper()
	if !bytes.Equal(got, want) {
		t.Errorf("%s: %d bytes: %.40x; want %d bytes: %.40x", what, len(got), got, len(want), want)
	}
}

// P4.1: the chapter's examples.
func TestExamples(t *testing.T) {
	key, start := unhex16(t, knownKey), unhex16(t, knownStart)
	s := block.New(unhex16(t, "000102030405060708090a0b0c0d0e0f"))
	checkBlock(t, "Encrypt", s.Encrypt(unhex16(t, "00112233445566778899aabbccddeeff")), unhex16(t, "69c4e0d86a7b0430d8cdb78070b4c55a"))
	checkBlock(t, "Round(10)", block.New(key).Round(10), unhex16(t, "d014f9a8c9ee2589e13f0cc8b6630ca6"))
	checkBytes(t, "Mask", block.Mask(key, start, unhex(t, "6bc1bee22e409f96e93d7e117393172a")), unhex(t, "874d6191b620e3261bef6864990db6ce"))
	first, second := block.New(key).Encrypt(highest), block.New(key).Encrypt(noughts)
	checkBytes(t, "Stream", block.Stream(key, highest, 32), append(first[:], second[:]...))
	checkBytes(t, "Stream", block.Stream(key, highest, 32), unhex(t, "8af2860142f786f409307c1a3f7eaaac7df76b0c1ab899b33e42f047b91b546f"))
	checkBlock(t, "Round(-1)", block.New(key).Round(-1), noughts)
	checkBlock(t, "Round(11)", block.New(key).Round(11), noughts)
}

// P4.1: FIPS 197's expanded key.
func TestKnownRoundKeys(t *testing.T) {
	s := block.New(unhex16(t, knownKey))
	for i, want := range []string{
		knownKey,
		"a0fafe1788542cb123a339392a6c7605",
		"f2c295f27a96b9435935807a7359f67f",
		"3d80477d4716fe3e1e237e446d7a883b",
		"ef44a541a8525b7fb671253bdb0bad00",
		"d4d1c6f87c839d87caf2b8bc11f915bc",
		"6d88a37a110b3efddbf98641ca0093fd",
		"4e54f70e5f5fc9f384a64fb24ea6dc4f",
		"ead27321b58dbad2312bf5607f8d292f",
		"ac7766f319fadc2128d12941575c006e",
		"d014f9a8c9ee2589e13f0cc8b6630ca6",
	} {
		checkBlock(t, fmt.Sprintf("Round(%d)", i), s.Round(i), unhex16(t, want))
	}
}

// P4.1: each round key is what the 44 words say.
func TestRoundKeysOfAnyKey(t *testing.T) {
	for _, key := range blocks() {
		s, want := block.New(key), definedKeys(key)
		for i := range want {
			checkBlock(t, fmt.Sprintf("key %x: Round(%d)", key, i), s.Round(i), want[i])
		}
	}
}

// P4.1: Round's numbers at both edges and far outside.
func TestRoundAtItsEdges(t *testing.T) {
	key := some16(7)
	s, want := block.New(key), definedKeys(key)
	checkBlock(t, "Round(0)", s.Round(0), key)
	checkBlock(t, "Round(10)", s.Round(10), want[10])
	for _, i := range []int{-1, -2, -10, -11, 11, 12, 16, 22, 43, 255, 256, 266, math.MinInt, math.MinInt + 1, math.MaxInt, math.MaxInt - 1, math.MinInt32, math.MaxInt32, 1 << 32, 1<<32 + 10} {
		checkBlock(t, fmt.Sprintf("Round(%d)", i), s.Round(i), noughts)
		checkBlock(t, fmt.Sprintf("the zero Schedule's Round(%d)", i), block.Schedule{}.Round(i), noughts)
	}
}

// P4.1 and P4.2: FIPS 197's blocks and some others', there and back.
func TestKnownBlocks(t *testing.T) {
	for _, k := range []struct{ key, plain, hidden string }{
		{"000102030405060708090a0b0c0d0e0f", "00112233445566778899aabbccddeeff", "69c4e0d86a7b0430d8cdb78070b4c55a"},
		{knownKey, "3243f6a8885a308d313198a2e0370734", "3925841d02dc09fbdc118597196a0b32"},
		{knownKey, "ffffffffffffffffffffffffffffffff", "8af2860142f786f409307c1a3f7eaaac"},
		{"00000000000000000000000000000000", "00000000000000000000000000000000", "66e94bd4ef8a2c3b884cfa59ca342b2e"},
	} {
		s := block.New(unhex16(t, k.key))
		checkBlock(t, "Encrypt of "+k.plain, s.Encrypt(unhex16(t, k.plain)), unhex16(t, k.hidden))
		checkBlock(t, "Decrypt of "+k.hidden, s.Decrypt(unhex16(t, k.hidden)), unhex16(t, k.plain))
	}
}

// P4.1: blocks and keys of all kinds, by the chapter's words and by the library.
func TestBlocksOfAnyKey(t *testing.T) {
	all := blocks()
	for i, key := range all {
		s, keys, library := block.New(key), definedKeys(key), libraryBlock(t, key)
		for _, b := range [][16]byte{all[len(all)-1-i], key, noughts, highest} {
			var want [16]byte
			library.Encrypt(want[:], b[:])
			what := fmt.Sprintf("key %x, %x", key, b)
			checkBlock(t, what+": Encrypt", s.Encrypt(b), want)
			checkBlock(t, what+": Encrypt by the words", s.Encrypt(b), definedEncryption(keys, b))
			library.Decrypt(want[:], b[:])
			checkBlock(t, what+": Decrypt", s.Decrypt(b), want)
			checkBlock(t, what+": Decrypt by the words", s.Decrypt(b), definedDecryption(keys, b))
		}
	}
}

// P4.1: every bit of a block and of a key tells.
func TestEveryBitTells(t *testing.T) {
	key := some16(9)
	s := block.New(key)
	there, back := map[[16]byte]int{}, map[[16]byte]int{}
	for _, b := range blocks() {
		there[s.Encrypt(b)]++
		back[s.Decrypt(b)]++
	}
	of := map[block.Schedule]int{}
	for _, k := range blocks() {
		of[block.New(k)]++
	}
	if n := len(blocks()); len(there) != n || len(back) != n || len(of) != n {
		t.Errorf("of %d: %d encrypted, %d decrypted, %d schedules", n, len(there), len(back), len(of))
	}
}

// P4.1 and P4.2: the zero Schedule goes by round keys of noughts, and is no key's schedule.
func TestZeroSchedule(t *testing.T) {
	var zero block.Schedule
	for i := range 11 {
		checkBlock(t, fmt.Sprintf("Round(%d)", i), zero.Round(i), noughts)
	}
	checkBlock(t, "Encrypt of noughts", zero.Encrypt(noughts), [16]byte(bytes.Repeat([]byte{0x36}, 16)))
	checkBlock(t, "Encrypt of 0 to 15", zero.Encrypt(unhex16(t, "000102030405060708090a0b0c0d0e0f")), unhex16(t, "189d19eadba7e30ed972808f3f2ba030"))
	checkBlock(t, "Decrypt", zero.Decrypt(unhex16(t, "189d19eadba7e30ed972808f3f2ba030")), unhex16(t, "000102030405060708090a0b0c0d0e0f"))
	for _, b := range blocks() {
		checkBlock(t, fmt.Sprintf("Encrypt of %x", b), zero.Encrypt(b), definedEncryption([11][16]byte{}, b))
		checkBlock(t, fmt.Sprintf("Decrypt of %x", b), zero.Decrypt(b), definedDecryption([11][16]byte{}, b))
		checkBlock(t, fmt.Sprintf("%x there and back", b), zero.Decrypt(zero.Encrypt(b)), b)
		checkBlock(t, fmt.Sprintf("%x back and there", b), zero.Encrypt(zero.Decrypt(b)), b)
		if block.New(b) == zero {
			t.Errorf("the key %x has the zero Schedule", b)
		}
	}
}

// P4.1: a schedule is a value: that of one key is equal by ==, whatever was done with it; another key's is not.
func TestSchedulesAreValues(t *testing.T) {
	for i, key := range blocks() {
		s, again := block.New(key), block.New(key)
		s.Encrypt(s.Decrypt(s.Round(i % 11)))
		if s != again || block.New(key) != s {
			t.Errorf("two schedules of %x differ", key)
		}
		other := key
		other[i%16] ^= 1 << (i % 8)
		if block.New(other) == s {
			t.Errorf("%x and %x have one schedule", key, other)
		}
	}
}

// P4.1 and P4.2: SP 800-38A's four blocks of counter mode.
func TestKnownMask(t *testing.T) {
	key, start := unhex16(t, knownKey), unhex16(t, knownStart)
	plain := unhex(t, "6bc1bee22e409f96e93d7e117393172aae2d8a571e03ac9c9eb76fac45af8e5130c81c46a35ce411e5fbc1191a0a52eff69f2445df4f9b17ad2b417be66c3710")
	hidden := unhex(t, "874d6191b620e3261bef6864990db6ce9806f66b7970fdff8617187bb9fffdff5ae4df3edbd5d35e5b4f09020db03eab1e031dda2fbe03d1792170a0f3009cee")
	for n := range len(plain) + 1 {
		checkBytes(t, fmt.Sprintf("Mask of %d", n), block.Mask(key, start, plain[:n]), hidden[:n])
		checkBytes(t, fmt.Sprintf("Mask of %d, back", n), block.Mask(key, start, hidden[:n]), plain[:n])
	}
}

// P4.1: every number of bytes of some blocks, by the chapter's words.
func TestStreamOfEveryLength(t *testing.T) {
	key, start := some16(1), some16(2)
	want := definedStream(key, start, 100)
	for n := range 101 {
		checkBytes(t, fmt.Sprintf("Stream of %d", n), block.Stream(key, start, n), want[:n])
	}
}

// P4.1: the numbers that the chapter names, about the limit too, by the library.
func TestStreamAtItsEdges(t *testing.T) {
	key, start := some16(3), some16(4)
	want := libraryMask(t, key, start, make([]byte, api.MaxStream))
	for _, n := range lengths {
		checkBytes(t, fmt.Sprintf("Stream of %d", n), block.Stream(key, start, n), want[:n])
	}
	for _, n := range []int{-1, -2, -16, math.MinInt, math.MinInt + 1, math.MinInt32, api.MaxStream + 1, api.MaxStream + 2, api.MaxStream + 16, 2 * api.MaxStream, math.MaxInt32, math.MaxInt - 1, math.MaxInt, 1 << 32, 1<<32 + 16} {
		if got := block.Stream(key, start, n); len(got) != 0 {
			t.Errorf("Stream of %d: %d bytes; want none", n, len(got))
		}
	}
}

// P4.1: lists of the same lengths, and longer ones than Stream gives.
func TestMaskOfAnyLength(t *testing.T) {
	key, start := some16(5), some16(6)
	for _, n := range append(lengths, api.MaxStream+1, api.MaxStream+15, api.MaxStream+16, api.MaxStream+17, 2*api.MaxStream+5) {
		p := some(n, byte(n))
		checkBytes(t, fmt.Sprintf("Mask of %d", n), block.Mask(key, start, p), libraryMask(t, key, start, p))
	}
}

// P4.1: lists, keys and starts of all kinds.
func TestMaskOfAnyBytes(t *testing.T) {
	r := rand.New(rand.NewSource(40))
	for range 200 {
		var key, start [16]byte
		r.Read(key[:])
		r.Read(start[:])
		p := make([]byte, r.Intn(100))
		r.Read(p)
		got := block.Mask(key, start, p)
		checkBytes(t, fmt.Sprintf("Mask(%x, %x, %x)", key, start, p), got, libraryMask(t, key, start, p))
		want := definedStream(key, start, len(p))
		checkBytes(t, fmt.Sprintf("Stream(%x, %x, %d)", key, start, len(p)), block.Stream(key, start, len(p)), want)
	}
}

// P4.1, and rule 4: nil and empty lists.
func TestNothingToMask(t *testing.T) {
	for _, p := range [][]byte{nil, {}, some(5, 0)[:0]} {
		if got := block.Mask(some16(1), some16(2), p); len(got) != 0 {
			t.Errorf("Mask of nothing: %x", got)
		}
	}
}

// carries: starts from which the sum carries, over each number of bytes and past 2^128, at once or some blocks later.
func carries() [][16]byte {
	var all [][16]byte
	for ones := range 17 {
		var b [16]byte
		if ones < 16 {
			b[15-ones] = 0x7E
		}
		copy(b[16-ones:], highest[:])
		for _, back := range []int64{0, 1, 2, 5, 255} {
			all = append(all, plus(b, -back))
		}
	}
	return all
}

// P4.1: the sum carries from byte to byte, and is taken modulo 2^128 within one call.
func TestStreamCarries(t *testing.T) {
	key := some16(8)
	for _, start := range carries() {
		want := libraryMask(t, key, start, make([]byte, 320))
		checkBytes(t, fmt.Sprintf("Stream from %x", start), block.Stream(key, start, 320), want)
		checkBytes(t, fmt.Sprintf("Mask from %x", start), block.Mask(key, start, some(320, 1)), libraryMask(t, key, start, some(320, 1)))
	}
}

// P4.1: past 2^128 the stream is the one from 0 on.
func TestStreamPastTheGreatest(t *testing.T) {
	key := some16(10)
	s := block.New(key)
	for k := range 6 {
		got := block.Stream(key, plus(noughts, int64(-k)), 16*10)
		for i := range 10 {
			checkBlock(t, fmt.Sprintf("block %d from %d below 2^128", i, k), [16]byte(got[16*i:]), s.Encrypt(plus(noughts, int64(i-k))))
		}
	}
}

// P4.1: the longest stream counts past one, and nearly past two, of the start's lowest bytes.
func TestLongStreamsBlocks(t *testing.T) {
	key := some16(11)
	s := block.New(key)
	for _, start := range [][16]byte{noughts, plus(noughts, -2048), plus(noughts, 0xFFFF-2000), some16(12)} {
		got := block.Stream(key, start, api.MaxStream)
		for _, i := range []int{0, 1, 254, 255, 256, 257, 511, 512, 1999, 2000, 2001, 2047, 2048, 2049, 4094, 4095} {
			checkBlock(t, fmt.Sprintf("block %d from %x", i, start), [16]byte(got[16*i:]), s.Encrypt(plus(start, int64(i))))
		}
	}
}

// P4.2: a block there and back, and back and there.
func TestThereAndBack(t *testing.T) {
	all := blocks()
	for i, key := range all {
		s := block.New(key)
		for _, b := range [][16]byte{key, all[(i+1)%len(all)], all[(i*7+3)%len(all)]} {
			checkBlock(t, fmt.Sprintf("key %x: Decrypt(Encrypt)", key), s.Decrypt(s.Encrypt(b)), b)
			checkBlock(t, fmt.Sprintf("key %x: Encrypt(Decrypt)", key), s.Encrypt(s.Decrypt(b)), b)
		}
	}
}

// P4.2: Mask of Mask is the list again.
func TestMaskOfMask(t *testing.T) {
	starts := carries()
	for i, n := range append(lengths, api.MaxStream+1, api.MaxStream+33) {
		key, start, p := some16(byte(n)), starts[i*5%len(starts)], some(n, byte(i))
		checkBytes(t, fmt.Sprintf("Mask of Mask of %d", n), block.Mask(key, start, block.Mask(key, start, p)), p)
	}
}

// P4.3: the first bytes are the same for every greater number.
func TestLongerBeginsWithShorter(t *testing.T) {
	key, start := some16(13), plus(noughts, -3)
	for i, n := range lengths {
		short := block.Stream(key, start, n)
		if len(short) != n {
			t.Fatalf("Stream of %d: %d bytes", n, len(short))
		}
		for _, m := range lengths[i:] {
			checkBytes(t, fmt.Sprintf("the first %d of %d", n, m), block.Stream(key, start, m)[:n], short)
		}
	}
}

// P4.3: from start + 1 on it is the stream without its first block.
func TestStreamFromTheNextStart(t *testing.T) {
	key := some16(14)
	for i, start := range append(carries(), blocks()...) {
		n := 33 + i%50
		got := block.Stream(key, plus(start, 1), n-16)
		checkBytes(t, fmt.Sprintf("from %x and 1 on", start), got, block.Stream(key, start, n)[16:])
	}
	whole := block.Stream(key, highest, api.MaxStream)
	checkBytes(t, "the longest, from 0 on", block.Stream(key, noughts, api.MaxStream)[:api.MaxStream-16], whole[16:])
}

// P4.3: Mask of noughts is the stream.
func TestMaskOfNoughts(t *testing.T) {
	starts := carries()
	for i, n := range lengths {
		key, start := some16(byte(i)), starts[i*3%len(starts)]
		checkBytes(t, fmt.Sprintf("Mask of %d noughts", n), block.Mask(key, start, make([]byte, n)), block.Stream(key, start, n))
	}
}

// withRoom: a copy of p with spare room behind it, and the two together.
func withRoom(p []byte) (inside, all []byte) {
	all = append(bytes.Clone(p), some(64, 0x5A)...)
	return all[:len(p)], all
}

// Rule 5: a list that is handed in stays as it is, its spare room too, and so do the arrays.
func TestHandedInStays(t *testing.T) {
	for _, n := range []int{0, 1, 15, 16, 17, 100} {
		key, start := some16(15), plus(noughts, -2)
		inside, all := withRoom(some(n, 16))
		before := bytes.Clone(all)
		block.Mask(key, start, inside)
		block.Stream(key, start, n)
		checkBytes(t, fmt.Sprintf("the list of %d and its room", n), all, before)
		checkBlock(t, "the key", key, some16(15))
		checkBlock(t, "the start", start, plus(noughts, -2))
	}
}

// Rule 5: an answer is memory of its own: what is written into it, or into the list that was handed in, changes nothing else.
func TestAnswersAreNew(t *testing.T) {
	key, start := some16(17), some16(18)
	for _, n := range []int{1, 15, 16, 17, 100} {
		p := some(n, 19)
		want, stream := libraryMask(t, key, start, p), libraryMask(t, key, start, make([]byte, n))
		first, second := block.Mask(key, start, p), block.Mask(key, start, p)
		long, short := block.Stream(key, start, n+1), block.Stream(key, start, n)
		clear(first[:cap(first)])
		clear(long[:cap(long)])
		checkBytes(t, "the list", p, some(n, 19))
		checkBytes(t, "the other Mask", second, want)
		checkBytes(t, "the other Stream", short, stream)
		clear(p)
		checkBytes(t, "the other Mask, once the list is changed", second, want)
		checkBytes(t, "Mask once more", block.Mask(key, start, some(n, 19)), want)
		checkBytes(t, "Stream once more", block.Stream(key, start, n), stream)
	}
}

// Rule 6: no call tells of one ahead of it.
func TestNothingIsKept(t *testing.T) {
	a, b, start := some16(20), some16(21), some16(22)
	wantA, wantB := definedStream(a, start, 50), definedStream(b, start, 50)
	for range 3 {
		checkBytes(t, "a's", block.Stream(a, start, 50), wantA)
		checkBytes(t, "b's", block.Stream(b, start, 50), wantB)
		block.Stream(a, highest, -1)
		block.New(b).Decrypt(a)
	}
}

// Rule 5: calls at one time share nothing that is written.
func TestManyAtOneTime(t *testing.T) {
	key, start := some16(23), plus(noughts, -4)
	s := block.New(key)
	want := libraryMask(t, key, start, make([]byte, 200))
	var done sync.WaitGroup
	for worker := range 8 {
		done.Go(func() {
			for n := range 100 {
				checkBytes(t, "by many", block.Stream(key, start, 2*n), want[:2*n])
				b := some16(byte(worker + n))
				checkBlock(t, "by many, there and back", s.Decrypt(s.Encrypt(b)), b)
			}
		})
	}
	done.Wait()
}

func ExampleSchedule_Encrypt() {
	s := block.New([16]byte([]byte("a key of 16 byte")))
	hidden := s.Encrypt([16]byte([]byte("and a block of 1")))
	plain := s.Decrypt(hidden)
	fmt.Printf("%s\n", plain[:])
	// Output: and a block of 1
}

func ExampleMask() {
	key, start := [16]byte([]byte("a key of 16 byte")), [16]byte{}
	hidden := block.Mask(key, start, []byte("bytes of any number"))
	fmt.Printf("%s\n", block.Mask(key, start, hidden))
	// Output: bytes of any number
}
