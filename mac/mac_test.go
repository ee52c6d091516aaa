package mac_test

import (
	"bytes"
	"crypto/hkdf"
	"crypto/hmac"
	"crypto/sha256"
	"encoding/hex"
	"fmt"
	"math"
	"math/rand"
	"strings"
	"sync"
	"testing"

	"churn/api"
	"churn/hash"
	"churn/mac"
)

// keyLengths stand about the block's size and the digest's, and far past both.
var keyLengths = []int{0, 1, 31, 32, 33, 62, 63, 64, 65, 66, 127, 128, 129, 131, 1000}

// sizes are lengths of expansions: the chapter's edges and those of a turn's 32 bytes.
var sizes = []int{0, 1, 2, 16, 31, 32, 33, 42, 63, 64, 65, 100, 8127, 8128, 8129, 8159, 8160}

// some: n bytes, no two neighbours alike, other ones for another seed.
func some(n int, seed byte) []byte {
	p := make([]byte, n)
	for i := range p {
		p[i] = byte(i*31+i/256*7) ^ seed
	}
	return p
}

func unhex(t *testing.T, s string) []byte {
	t.Helper()
	b, err := hex.DecodeString(s)
	if err != nil {
		t.Fatal(err)
	}
	return b
}

func join(pieces ...[]byte) []byte { return bytes.Join(pieces, nil) }

// wantTag: the library's answer.
func wantTag(key, msg []byte) [32]byte {
	h := hmac.New(sha256.New, key)
	h.Write(msg)
	return [32]byte(h.Sum(nil))
}

// definedTag: the chapter's words, over layer 1.
func definedTag(key, msg []byte) [32]byte {
	if len(key) > 64 {
		d := hash.Sum(key)
		key = d[:]
	}
	inner, outer := make([]byte, 64), make([]byte, 64)
	for i := range 64 {
		k := byte(0)
		if i < len(key) {
			k = key[i]
		}
		inner[i], outer[i] = k^0x36, k^0x5C
	}
	d := hash.Sum(join(inner, msg))
	return hash.Sum(join(outer, d[:]))
}

// definedExpansion: the chapter's words: all 255 turns, and then the first n bytes.
func definedExpansion(key, info []byte, n int) []byte {
	var all, last []byte
	for i := 1; i <= 255; i++ {
		turn := wantTag(key, join(last, info, []byte{byte(i)}))
		all, last = append(all, turn[:]...), turn[:]
	}
	return all[:n]
}

func checkTag(t *testing.T, what string, key, msg []byte) {
	t.Helper()
	got := mac.Tag(key, msg)
	if want := wantTag(key, msg); got != want {
		t.Errorf("%s: Tag = %x; want %x", what, got, want)
	}
	if want := definedTag(key, msg); got != want {
		t.Errorf("%s: Tag = %x; by the definition %x", what, got, want)
	}
}

func checkBytes(t *testing.T, what string, got []byte, e api.Errno, want []byte) {
	t.Helper()
	if e != api.OK || !bytes.Equal(got, want) {
		t.Errorf("%s: %d bytes, error %d: %.40x; want %d bytes: %.40x", what, len(got), e, got, len(want), want)
	}
}

// P2.1: RFC 4231's cases 1 to 4, 6 and 7, the chapter's example among them, and its case 5, cut there to 16 bytes.
func TestKnownTags(t *testing.T) {
	for _, k := range []struct{ key, msg, want string }{
		{strings.Repeat("0b", 20), hex.EncodeToString([]byte("Hi There")), "b0344c61d8db38535ca8afceaf0bf12b881dc200c9833da726e9376c2e32cff7"},
		{hex.EncodeToString([]byte("Jefe")), hex.EncodeToString([]byte("what do ya want for nothing?")), "5bdcc146bf60754e6a042426089575c75a003f089d2739839dec58b964ec3843"},
		{strings.Repeat("aa", 20), strings.Repeat("dd", 50), "773ea91e36800e46854db8ebd09181a72959098b3ef8c122d9635514ced565fe"},
		{"0102030405060708090a0b0c0d0e0f10111213141516171819", strings.Repeat("cd", 50), "82558a389a443c0ea4cc819899f2083a85f0faa3e578f8077a2e3ff46729665b"},
		{strings.Repeat("0c", 20), hex.EncodeToString([]byte("Test With Truncation")), "a3b6167473100ee06e0c796c2955552b"},
		{strings.Repeat("aa", 131), hex.EncodeToString([]byte("Test Using Larger Than Block-Size Key - Hash Key First")), "60e431591ee0b67f0d8a26aacbf5b77f8e0bc6213728c5140546040f0ee37f54"},
		{strings.Repeat("aa", 131), hex.EncodeToString([]byte("This is a test using a larger than block-size key and a larger than block-size data. The key needs to be hashed before being used by the HMAC algorithm.")), "9b09ffa71b942fcb27635fbcd5b0e944bfdc63644f0713938a7f51535c3a35e2"},
	} {
		got := mac.Tag(unhex(t, k.key), unhex(t, k.msg))
		if !strings.HasPrefix(hex.EncodeToString(got[:]), k.want) {
			t.Errorf("Tag(%.20s, %.20s) = %x; want %s", k.key, k.msg, got, k.want)
		}
	}
}

// P2.1: every length of key about the block's, with messages about a block's edges, bytes of all kinds.
func TestTagOfEveryLength(t *testing.T) {
	for n := range 140 {
		for _, m := range []int{0, 1, 55, 56, 63, 64, 65, 128, 300} {
			what := fmt.Sprintf("a key of %d bytes, a message of %d", n, m)
			checkTag(t, what, some(n, 1), some(m, 2))
			checkTag(t, what+", of bytes ff", bytes.Repeat([]byte{0xff}, n), bytes.Repeat([]byte{0xff}, m))
			checkTag(t, what+", of noughts", make([]byte, n), make([]byte, m))
		}
	}
	for m := range 200 {
		checkTag(t, fmt.Sprintf("a message of %d bytes", m), some(20, 1), some(m, 2))
	}
	checkTag(t, "a great key", some(1<<17+1, 1), some(9, 2))
	checkTag(t, "a great message", some(9, 1), some(1<<17+1, 2))
}

// P2.1: keys and messages without a rule.
func TestTagOfAnyBytes(t *testing.T) {
	r := rand.New(rand.NewSource(21))
	for i := range 2000 {
		key, msg := make([]byte, r.Intn(150)), make([]byte, r.Intn(300))
		r.Read(key)
		r.Read(msg)
		checkTag(t, fmt.Sprint("number ", i), key, msg)
	}
}

// P2.1 and rule 4: nil and empty are one and the same.
func TestNilIsEmpty(t *testing.T) {
	none := []byte{}
	if mac.Tag(nil, nil) != mac.Tag(none, none) || mac.Tag(nil, nil) != wantTag(nil, nil) {
		t.Error("Tag of nothing")
	}
	if mac.Extract(nil, nil) != mac.Extract(none, none) || mac.Extract(nil, nil) != wantTag(nil, nil) {
		t.Error("Extract of nothing")
	}
	got, e := mac.Expand(nil, nil, 70)
	checkBytes(t, "Expand of nil", got, e, definedExpansion(none, none, 70))
	got, e = mac.Expand(none, none, 70)
	checkBytes(t, "Expand of empty ones", got, e, definedExpansion(nil, nil, 70))
	got, e = mac.Derive(nil, nil, nil, 70)
	empty, f := mac.Derive(none, none, none, 70)
	checkBytes(t, "Derive of empty ones", empty, f, got)
	key := wantTag(nil, nil)
	checkBytes(t, "Derive of nil", got, e, definedExpansion(key[:], nil, 70))
}

// P2.1: Equal looks at the length and at each byte.
func TestEqual(t *testing.T) {
	for _, k := range []struct {
		a, b []byte
		want bool
	}{
		{nil, nil, true},
		{nil, []byte{}, true},
		{[]byte{}, nil, true},
		{[]byte{}, []byte{}, true},
		{nil, []byte{0}, false},
		{[]byte{0}, nil, false},
		{[]byte("a"), []byte("ab"), false},
		{[]byte("ab"), []byte("a"), false},
		{[]byte("ab"), []byte("ba"), false},
		{[]byte{1, 0}, []byte{1}, false},
		{make([]byte, 16), make([]byte, 17), false},
		{[]byte{0x80}, []byte{0}, false},
		{[]byte{3, 3}, []byte{5, 5}, false},
		{make([]byte, 256), make([]byte, 512), false},
	} {
		if got := mac.Equal(k.a, k.b); got != k.want {
			t.Errorf("Equal(%x, %x) = %v", k.a, k.b, got)
		}
	}
}

// P2.1: each bit of each byte counts, for tags and for longer lists.
func TestEqualSeesEveryBit(t *testing.T) {
	for _, n := range []int{1, 8, 16, 32, 33, 200} {
		a, b := some(n, 4), some(n, 4)
		if !mac.Equal(a, b) || !mac.Equal(a, a) {
			t.Errorf("%d like bytes are not equal", n)
		}
		for bit := range 8 * n {
			b[bit/8] ^= 1 << (bit % 8)
			if mac.Equal(a, b) || mac.Equal(b, a) {
				t.Errorf("%d bytes: bit %d does not count", n, bit)
			}
			b[bit/8] ^= 1 << (bit % 8)
		}
		for m := range n {
			if mac.Equal(a, a[:m]) || mac.Equal(a[:m], a) {
				t.Errorf("%d bytes and their first %d are equal", n, m)
			}
		}
	}
}

// hkdfCases are RFC 5869's cases 1 to 3, the chapter's example first.
var hkdfCases = []struct{ secret, salt, info, key, want string }{
	{
		strings.Repeat("0b", 22), "000102030405060708090a0b0c", "f0f1f2f3f4f5f6f7f8f9",
		"077709362c2e32df0ddc3f0dc47bba6390b6c73bb50f9c3122ec844ad7c2b3e5",
		"3cb25f25faacd57a90434f64d0362f2a2d2d0a90cf1a5a4c5db02d56ecc4c5bf34007208d5b887185865",
	},
	{
		"000102030405060708090a0b0c0d0e0f101112131415161718191a1b1c1d1e1f202122232425262728292a2b2c2d2e2f303132333435363738393a3b3c3d3e3f404142434445464748494a4b4c4d4e4f",
		"606162636465666768696a6b6c6d6e6f707172737475767778797a7b7c7d7e7f808182838485868788898a8b8c8d8e8f909192939495969798999a9b9c9d9e9fa0a1a2a3a4a5a6a7a8a9aaabacadaeaf",
		"b0b1b2b3b4b5b6b7b8b9babbbcbdbebfc0c1c2c3c4c5c6c7c8c9cacbcccdcecfd0d1d2d3d4d5d6d7d8d9dadbdcdddedfe0e1e2e3e4e5e6e7e8e9eaebecedeeeff0f1f2f3f4f5f6f7f8f9fafbfcfdfeff",
		"06a6b88c5853361a06104c9ceb35b45cef760014904671014a193f40c15fc244",
		"b11e398dc80327a1c8e7f78c596a49344f012eda2d4efad8a050cc4c19afa97c59045a99cac7827271cb41c65e590e09da3275600c2f09b8367793a9aca3db71cc30c58179ec3e87c14c01d5c1f3434f1d87",
	},
	{
		strings.Repeat("0b", 22), "", "",
		"19ef24a32c717b167f33a91d6f648bdf96596776afdb6377ac434c1c293ccb04",
		"8da4e775a563c18f715f802a063c5a31b8a11f5c5ee1879ec3454e5f3c738d2d9d201395faa4b61a96c8",
	},
}

// P2.1 and P2.2: Extract, Expand and Derive of the known cases.
func TestKnownDerivations(t *testing.T) {
	for _, k := range hkdfCases {
		secret, salt, info, want := unhex(t, k.secret), unhex(t, k.salt), unhex(t, k.info), unhex(t, k.want)
		key := mac.Extract(salt, secret)
		if hex.EncodeToString(key[:]) != k.key {
			t.Errorf("Extract = %x; want %s", key, k.key)
		}
		got, e := mac.Expand(key[:], info, len(want))
		checkBytes(t, "Expand", got, e, want)
		got, e = mac.Derive(secret, salt, info, len(want))
		checkBytes(t, "Derive", got, e, want)
	}
}

// P2.1: in Extract the salt is the key and the secret the message, for all lengths of both.
func TestExtract(t *testing.T) {
	for _, n := range keyLengths {
		for _, m := range keyLengths {
			salt, secret := some(n, 5), some(m, 6)
			if got := mac.Extract(salt, secret); got != wantTag(salt, secret) {
				t.Errorf("a salt of %d bytes, a secret of %d: %x", n, m, got)
			}
		}
	}
}

// P2.2: Expand of each size that the chapter's edges name, keys and infos of all lengths.
func TestExpand(t *testing.T) {
	for _, k := range keyLengths {
		for _, i := range []int{0, 1, 10, 31, 32, 33, 64, 200} {
			key, info := some(k, 7), some(i, 8)
			all := definedExpansion(key, info, 8160)
			for _, n := range sizes {
				got, e := mac.Expand(key, info, n)
				checkBytes(t, fmt.Sprintf("key %d, info %d, n %d", k, i, n), got, e, all[:n])
			}
		}
	}
}

// P2.2: Expand of every n there is, held against the library too.
func TestExpandToEveryLength(t *testing.T) {
	if testing.Short() {
		t.Skip("takes seconds")
	}
	key, info := some(32, 9), some(11, 10)
	whole, err := hkdf.Expand(sha256.New, key, string(info), 8160)
	if err != nil {
		t.Fatal(err)
	}
	if !bytes.Equal(whole, definedExpansion(key, info, 8160)) {
		t.Fatal("the library and the definition are not of one mind")
	}
	for n := 0; n <= 8160; n++ {
		got, e := mac.Expand(key, info, n)
		checkBytes(t, fmt.Sprint("n ", n), got, e, whole[:n])
	}
}

// P2.2: Derive is Expand of Extract: secret, salt and info are each in its own place.
func TestDerive(t *testing.T) {
	r := rand.New(rand.NewSource(22))
	for i := range 200 {
		secret, salt, info := make([]byte, r.Intn(130)), make([]byte, r.Intn(130)), make([]byte, r.Intn(130))
		r.Read(secret)
		r.Read(salt)
		r.Read(info)
		n := sizes[r.Intn(len(sizes))]
		got, e := mac.Derive(secret, salt, info, n)
		key := wantTag(salt, secret)
		checkBytes(t, fmt.Sprint("number ", i), got, e, definedExpansion(key[:], info, n))
		own := mac.Extract(salt, secret)
		expanded, _ := mac.Expand(own[:], info, n)
		checkBytes(t, fmt.Sprint("number ", i, ", by its parts"), got, e, expanded)
	}
}

// P2.2, ErrArg and ErrLong: an n outside 0 to 8160 is refused, and nothing stands beside the error; whatever the bytes.
func TestLengthsThatAreRefused(t *testing.T) {
	for _, k := range []struct {
		n    int
		want api.Errno
	}{
		{-1, api.ErrArg}, {-2, api.ErrArg}, {-32, api.ErrArg}, {-8160, api.ErrArg}, {-8161, api.ErrArg}, {math.MinInt32, api.ErrArg}, {math.MinInt, api.ErrArg},
		{8161, api.ErrLong}, {8162, api.ErrLong}, {8192, api.ErrLong}, {8193, api.ErrLong}, {65536, api.ErrLong}, {math.MaxInt32, api.ErrLong}, {math.MaxInt, api.ErrLong},
	} {
		for _, p := range [][]byte{nil, {}, some(32, 1), some(65, 1)} {
			if got, e := mac.Expand(p, p, k.n); e != k.want || len(got) != 0 {
				t.Errorf("Expand to %d: %d bytes, error %d; want %d", k.n, len(got), e, k.want)
			}
			if got, e := mac.Derive(p, p, p, k.n); e != k.want || len(got) != 0 {
				t.Errorf("Derive to %d: %d bytes, error %d; want %d", k.n, len(got), e, k.want)
			}
		}
	}
}

// P2.2: what lies exactly at a limit is taken.
func TestLengthsAtTheLimits(t *testing.T) {
	for _, n := range []int{0, 1, 8159, 8160} {
		if got, e := mac.Expand(nil, nil, n); e != api.OK || len(got) != n {
			t.Errorf("Expand to %d: %d bytes, error %d", n, len(got), e)
		}
		if got, e := mac.Derive(nil, nil, nil, n); e != api.OK || len(got) != n {
			t.Errorf("Derive to %d: %d bytes, error %d", n, len(got), e)
		}
	}
}

// P2.3: of any two expansions of one key and info the longer begins with the shorter.
func TestLongerBeginsWithShorter(t *testing.T) {
	for _, k := range []int{0, 32, 64, 65} {
		for _, i := range []int{0, 1, 40} {
			key, info := some(k, 11), some(i, 12)
			var shorter []byte
			for _, n := range sizes {
				longer, e := mac.Expand(key, info, n)
				if e != api.OK || len(longer) != n || !bytes.HasPrefix(longer, shorter) {
					t.Errorf("key %d, info %d: that of %d does not begin with that of %d", k, i, n, len(shorter))
				}
				derived, _ := mac.Derive(info, key, info, n)
				whole, _ := mac.Derive(info, key, info, 8160)
				if len(derived) != n || !bytes.HasPrefix(whole, derived) {
					t.Errorf("salt %d, info %d: the greatest derivation does not begin with that of %d", k, i, n)
				}
				shorter = longer
			}
		}
	}
}

// P2.4: noughts behind a key of fewer than 64 bytes, up to 64 in all, change no Tag.
func TestNoughtsBehindAKey(t *testing.T) {
	for n := range 64 {
		key, msg := some(n, 13), some(n, 14)
		want := mac.Tag(key, msg)
		for m := n + 1; m <= 64; m++ {
			if mac.Tag(join(key, make([]byte, m-n)), msg) != want {
				t.Errorf("a key of %d bytes, filled up to %d, has another Tag", n, m)
			}
		}
		if mac.Tag(join(key, make([]byte, 65-n)), msg) == want {
			t.Errorf("a key of %d bytes, filled up to 65, has the same Tag", n)
		}
		if n > 0 && mac.Tag(join(make([]byte, 64-n), key), msg) == want {
			t.Errorf("noughts ahead of a key of %d bytes change nothing", n)
		}
	}
}

// P2.4: a key of more than 64 bytes has its digest's Tags; one of 64 or fewer has not.
func TestLongKeyIsItsDigest(t *testing.T) {
	for _, n := range []int{0, 32, 63, 64, 65, 66, 100, 128, 129, 1000} {
		key := some(n, 15)
		digest := sha256.Sum256(key)
		for _, m := range []int{0, 1, 63, 64, 65, 200} {
			msg := some(m, 16)
			if same := mac.Tag(key, msg) == mac.Tag(digest[:], msg); same != (n > 64) {
				t.Errorf("a key of %d bytes, a message of %d: the digest's Tag is the same: %v", n, m, same)
			}
		}
	}
}

// withRoom: p in the midst of other bytes, which are its spare room too; and all of them.
func withRoom(p []byte) (inside, all []byte) {
	all = join(some(20, 77), p, some(80, 78))
	return all[20 : 20+len(p)], all
}

// Rule 5: what is handed in is not changed, its spare room included.
func TestHandedInStays(t *testing.T) {
	for _, n := range keyLengths {
		a, allA := withRoom(some(n, 1))
		b, allB := withRoom(some(n+3, 2))
		c, allC := withRoom(some(n+1, 3))
		mac.Tag(a, b)
		mac.Equal(a, b)
		mac.Extract(a, b)
		for _, size := range []int{-1, 0, 1, 33, 100, 8160, 8161} {
			mac.Expand(a, b, size)
			mac.Derive(a, b, c, size)
		}
		for i, pair := range [][2][]byte{{allA, some(n, 1)}, {allB, some(n+3, 2)}, {allC, some(n+1, 3)}} {
			if _, was := withRoom(pair[1]); !bytes.Equal(pair[0], was) {
				t.Errorf("%d bytes: argument %d, or what lies about it, has changed", n, i)
			}
		}
	}
}

// Rule 5: one list handed in at two places, or two pieces of one, are answered as copies would be.
func TestArgumentsThatShare(t *testing.T) {
	all := some(200, 4)
	for _, n := range []int{0, 1, 32, 64, 65, 150} {
		p, q := all[:n], all[n/2:n/2+40]
		checkTag(t, "one list twice", p, p)
		checkTag(t, "two pieces of one list", p, q)
		got, e := mac.Expand(p, q, 100)
		checkBytes(t, "Expand of two pieces of one list", got, e, definedExpansion(bytes.Clone(p), bytes.Clone(q), 100))
	}
}

// Rule 5: an answer is new memory; written over, with its spare room, it changes no argument and no other answer.
func TestAnswersAreNew(t *testing.T) {
	for _, n := range []int{1, 31, 32, 33, 64, 8160} {
		key, allKey := withRoom(some(32, 1))
		info, allInfo := withRoom(some(n, 2))
		first, _ := mac.Expand(key, info, n)
		second, _ := mac.Expand(key, info, n)
		third, _ := mac.Derive(key, info, info, n)
		want, wantThird := bytes.Clone(second), bytes.Clone(third)
		clear(first[:cap(first)])
		if !bytes.Equal(second, want) || !bytes.Equal(third, wantThird) {
			t.Errorf("n %d: an answer shares memory with another", n)
		}
		clear(second[:cap(second)])
		clear(third[:cap(third)])
		_, wasKey := withRoom(some(32, 1))
		_, wasInfo := withRoom(some(n, 2))
		if !bytes.Equal(allKey, wasKey) || !bytes.Equal(allInfo, wasInfo) {
			t.Errorf("n %d: an answer shares memory with an argument", n)
		}
		again, e := mac.Expand(key, info, n)
		checkBytes(t, "asked again", again, e, want)
	}
}

// Rule 5: what was handed in and is changed afterwards changes no answer.
func TestHandedInIsNotKept(t *testing.T) {
	key, info := some(40, 1), some(40, 2)
	got, e := mac.Expand(key, info, 40)
	want := definedExpansion(some(40, 1), some(40, 2), 40)
	clear(key)
	clear(info)
	checkBytes(t, "after the arguments were changed", got, e, want)
	got, e = mac.Expand(some(40, 1), some(40, 2), 40)
	checkBytes(t, "asked again", got, e, want)
}

// Rule 6: calls know nothing of one another, at one time either.
func TestManyAtOneTime(t *testing.T) {
	key, info := some(70, 1), some(30, 2)
	want := definedExpansion(key, info, 300)
	var done sync.WaitGroup
	for i := range 8 {
		done.Go(func() {
			for n := range 100 {
				got, e := mac.Expand(key, info, 3*n)
				checkBytes(t, "by many", got, e, want[:3*n])
				checkTag(t, "by many", some(n, byte(i)), info)
			}
		})
	}
	done.Wait()
}

func ExampleTag() {
	fmt.Printf("%x\n", mac.Tag([]byte("Jefe"), []byte("what do ya want for nothing?")))
	// Output: 5bdcc146bf60754e6a042426089575c75a003f089d2739839dec58b964ec3843
}

func ExampleDerive() {
	key, e := mac.Derive([]byte("a secret"), []byte("a salt"), []byte("what the key is for"), 32)
	fmt.Println(len(key), e == api.OK)
	_, e = mac.Derive([]byte("a secret"), nil, nil, 8161)
	fmt.Println(e == api.ErrLong)
	// Output:
	// 32 true
	// true
}
