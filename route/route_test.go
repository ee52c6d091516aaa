package route_test

import (
	"bytes"
	"encoding/hex"
	"fmt"
	"math"
	"math/rand"
	"slices"
	"sync"
	"testing"

	"churn/api"
	"churn/cell"
	"churn/mac"
	"churn/onion"
	"churn/route"
)

// P8.1: the chapter's examples.
func TestExamples(t *testing.T) {
	keys, nonces := chain(9, 1)
	checkList(t, "no keys", wrap(nil, nil, nil), listed{Err: api.ErrChain})
	checkList(t, "one key and two nonces", wrap(keys[:1], nonces[:2], nil), listed{Err: api.ErrChain})
	checkList(t, "a key of 31 bytes", wrap([][]byte{keys[0][:31]}, nonces[:1], nil), listed{Err: api.ErrArg})
	checkList(t, "a payload of 49 bytes", wrap(keys[:1], nonces[:1], make([]byte, 49)), listed{Err: api.ErrLong})
	checkList(t, "nine keys and nine nonces", wrap(keys, nonces, nil), listed{Err: api.ErrChain})

	one, _ := onion.Wrap(keys[0], nonces[0], 1, []byte("hi"))
	checkList(t, "one hop", wrap(keys[:1], nonces[:1], []byte("hi")), listed{List: join(one, make([]byte, 238))})
	if eight := wrapped(t, keys[:8], nonces[:8], []byte("hi")); onlyNoughts(eight[312:]) {
		t.Errorf("eight hops: %x", eight)
	}

	noughts := make([]byte, 32)
	checkList(t, "the epoch -1", key(noughts, -1), listed{Err: api.ErrArg})
	if k := key(noughts, 1<<62); len(k.List) != 32 || k.Err != api.OK {
		t.Errorf("the epoch 2^62: %v", k)
	}
	checkList(t, "the epoch 2^62 + 1", key(noughts, 1<<62+1), listed{Err: api.ErrArg})

	_, e := onion.Peel(keys[0], 2, make([]byte, 320))
	checkWalk(t, "a cell of noughts", walk(keys[:2], make([]byte, 320)), walked{Err: e})
	checkRefused(t, "a cell of noughts", keys[:2], make([]byte, 320), api.ErrTag)
}

// P8.1: keys and cells whose bytes were reckoned by another program, from the chapters' words.
func TestKnownKeys(t *testing.T) {
	counted := make([]byte, 32)
	for i := range counted {
		counted[i] = byte(i)
	}
	for _, c := range []struct {
		master []byte
		epoch  int64
		want   string
	}{
		{make([]byte, 32), 0, "5d9ea287fd86dbe45d8fb2cf7f051d78008e02dc776fa23cc765f17b9db2ab82"},
		{make([]byte, 32), 1, "23301a0255a22cdd8fed976a19d562634059749a51ddaad2d4315a17d870da2f"},
		{make([]byte, 32), 256, "cd368e130aa0d042895396f7ba948c1063d9aca8b6b37e1d7168d6759e083ad1"},
		{make([]byte, 32), 1<<62 - 1, "c36f1a9c0f8440cba1bf58b594623234f95dc62641a0b2977234b61f11a3aed8"},
		{make([]byte, 32), 1 << 62, "d91424201069c6a25735c764186c2ebf6e3501ff196eb619d20c467b74a94696"},
		{counted, 0, "d4831afedbc063e7653bba4246be738e66a526b70df1cbf0f2c57e8ab273c4e7"},
		{counted, 1, "b4ac98b281d27bc6fc97df75e66c91a6d25cb9ab20581481d23a9a8632e2bd65"},
		{counted, 256, "3c359c97895da779c3d1d8717b8f89a62ee47e93332fd9003a24b001e33b4fea"},
		{counted, 1<<62 - 1, "c372c14afdb35101d407705a027aeaddf73c79949e8ca41f4b74b5b5024c1535"},
		{counted, 1 << 62, "2bd4744c60eaf3765b663bbf5de11ba0cc105d5286ba63737dfb2118c2f2dd46"},
	} {
		if got := key(c.master, c.epoch); hex.EncodeToString(got.List) != c.want || got.Err != api.OK {
			t.Errorf("the epoch %d: %v; want %s", c.epoch, got, c.want)
		}
	}
}

// knownChain: the hops' keys are those of the epochs 7, 8, .. under masters of one byte each; the nonces count on.
func knownChain(h int) ([][]byte, [][16]byte) {
	keys, nonces := make([][]byte, h), make([][16]byte, h)
	for i := range h {
		keys[i], _ = route.Key(bytes.Repeat([]byte{byte(i + 1)}, 32), int64(7+i))
		for j := range 16 {
			nonces[i][j] = byte(16*i + j)
		}
	}
	return keys, nonces
}

// P8.1: as above.
func TestKnownCells(t *testing.T) {
	counted := make([]byte, 48)
	for i := range counted {
		counted[i] = byte(200 + i)
	}
	for _, c := range []struct {
		hops    int
		payload []byte
		want    string
		replays []string
	}{
		{
			1, nil,
			"000102030405060708090a0b0c0d0e0fd035bf1bccb33a24c625ce8780f34642a5702acf932b66adb4f400a37f0395aab361b45ab963112b3d96e01a0a0de3813a0df676b78181fbf3462f01e401ac7e887f",
			[]string{"8a24eca7cb336bcc43a8756c8c42b265"},
		},
		{
			2, []byte("hello"),
			"000102030405060708090a0b0c0d0e0fa17422cbc1b5865a7824b4a76459cf4ea5223ade813872b8a2e318ba651889b7ad7eb350bec64082f13dd4e40acb9c8559238b668e322e25513e2290a722ca69d37b6dcf9c5e10ac8804017e194238893e45b2d02a07f36119f359d876112b44b8cbeec4",
			[]string{"ae14cf6aa8e50486efff07a310e0a410", "6a12ad3df267543a1ed14700485854f0"},
		},
		{
			3, []byte("three hops"),
			"000102030405060708090a0b0c0d0e0f0411e9d72c9f3c2ae95d188322f6c535a5043ade813872b8a2e318ba651889b7ad7e14b3d3fccdbbda29aa17b16c424a5bb48b31c676606a1a1b04b78f0be042ff5643e0a21fcca9622e240987a224b07e872f8bb3a41cf34111b89872143055aea5d2b6acbc3c60f514b83f652d9e19cdc5ef94d918eae02120ad03b1eeb0fe9b09fa9e5ae0",
			[]string{"5284d2e592d031d4b67168933e62cc3d", "b231dab5cc426464d1ca72cead8cf93d", "3128a965bb99fbc616a697e98625abf4"},
		},
		{
			8, counted,
			"000102030405060708090a0b0c0d0e0f0edf1dc3bee4f25305de020e38afb439a46e3ade813872b8a2e318ba651889b7ad7e9c0000d50192afc40b1c5f978ee78ce48b9fc676606a1a1b04b78f0be042ff5643e0e3d030d63ca5f2fc6d0ce1aee5920f27b37458aa0147e98d2c4c781f949eee8b9283eeb2b051083aeb65d1c387c3a67df12df97e626a12222d76a3053de7045fdfaddabdc3f7a98ef56fe02742d2ae706165e6a703cc4fbaa1e611dba3107f3d5f0ff80d132b6de42ace8141ceb5281449748922a1937e8637412418e5219935ade3d9e9b20c398cd5d9fa10b86d3947e5ec2fd333db2f5968fa16a9b01f6f2af03536990f108946ce22c063b79fb7b4c651379e88727d579a9f5343da81da2ef24e51fbac8e5eb47ead54dbc196645466c53d97ca6670aaceeed048b4037cf94062847521cf76cd812520f1",
			[]string{"baeb0000315f9ff3bfca6133ad3d6f10", "bd677b4ce79472cf17e401b5c5e4e8e8", "7531f3f7ede340e1da92645ca7afbeba", "3ec1cde4fe17d72f6db8144ac22958a1", "dbc74ee5c227aa66d29f356c0ec8fe3d", "5c23682df7fcc2d69f6d7000d32cea46", "8e8516a71c4b504ce09b526833991f1b", "8a7e84be53d8174baeed15dd2f7d2875"},
		},
	} {
		keys, nonces := knownChain(c.hops)
		o, _ := hex.DecodeString(c.want)
		checkList(t, fmt.Sprintf("Wrap for %d hops", c.hops), wrap(keys, nonces, c.payload), listed{List: cellOf(o)})
		got := walk(keys, cellOf(o))
		if len(got.Way) != c.hops || got.Err != api.OK {
			t.Fatalf("Walk over %d hops: %v", c.hops, got)
		}
		for i, p := range got.Way {
			if hex.EncodeToString(p.Replay[:]) != c.replays[i] {
				t.Errorf("%d hops: the replay tag at hop %d is %x", c.hops, i, p.Replay)
			}
		}
		if !bytes.Equal(got.Way[c.hops-1].Cell, plainOf(c.payload)) {
			t.Errorf("%d hops: %v", c.hops, got)
		}
	}
}

// P8.1: the errors' numbers are those that the chapter gives.
func TestNumbersOfErrors(t *testing.T) {
	keys, nonces := chain(2, 1)
	c := wrapped(t, keys, nonces, []byte("x"))
	for _, a := range []struct {
		got  api.Errno
		want int
	}{
		{key(nil, 0).Err, 2},
		{key(keys[0], -1).Err, 2},
		{key(keys[0], 0).Err, 0},
		{wrap(nil, nil, nil).Err, 80},
		{wrap(keys, nonces[:1], nil).Err, 80},
		{wrap(withKey(keys, 1, nil), nonces, nil).Err, 2},
		{wrap(keys, nonces, make([]byte, 49)).Err, 1},
		{wrap(keys, nonces, make([]byte, 48)).Err, 0},
		{walk(nil, c).Err, 80},
		{walk(withKey(keys, 1, nil), c).Err, 2},
		{walk(keys, c[:319]).Err, 50},
		{walk(keys, with(c, 319, 1)).Err, 51},
		{walk(keys, with(c, 115, c[115]^1)).Err, 70},
		{walk(keys, cellOf(boxed(keys[0], nonces[0], 2, numbered(2, 83, nil)))).Err, 71},
		{walk(keys, c).Err, 0},
	} {
		if a.got != api.Errno(a.want) {
			t.Errorf("error %d where %d belongs", a.got, a.want)
		}
	}
}

// epochs are those of one bit, and their neighbours: each byte of an epoch, and each end of one.
func epochs() []int64 {
	all := []int64{0, 0x0102030405060708, 0x00ff00ff00ff00ff, 0x3f00000000000000}
	for bit := range 63 {
		all = append(all, 1<<bit-1, 1<<bit)
		if bit < 62 {
			all = append(all, 1<<bit+1)
		}
	}
	slices.Sort(all)
	return slices.Compact(all)
}

// P8.1, P8.4: a key is mac.Derive's, of KeySize bytes, and another for another epoch or master.
func TestKey(t *testing.T) {
	seen := map[string]int{}
	count := 0
	for _, master := range [][]byte{make([]byte, 32), bytes.Repeat([]byte{255}, 32), some(32, 1), with(make([]byte, 32), 31, 1), with(make([]byte, 32), 0, 128)} {
		for _, epoch := range epochs() {
			salt := make([]byte, 8)
			for i, n := 7, epoch; i >= 0; i, n = i-1, n/256 {
				salt[i] = byte(n % 256)
			}
			want, _ := mac.Derive(master, salt, []byte("churn hop"), 32)
			got := key(master, epoch)
			checkList(t, fmt.Sprintf("the epoch %d", epoch), got, listed{List: want})
			checkList(t, fmt.Sprintf("the epoch %d, by the words", epoch), got, definedKey(master, epoch))
			if len(got.List) != api.KeySize {
				t.Errorf("the epoch %d: %d bytes", epoch, len(got.List))
			}
			seen[string(got.List)]++
			count++
		}
	}
	if len(seen) != count {
		t.Errorf("%d keys for %d masters and epochs", len(seen), count)
	}
}

// P8.1: masters and epochs without a rule.
func TestKeyOfAny(t *testing.T) {
	r := rand.New(rand.NewSource(81))
	for range 1000 {
		master := make([]byte, 32)
		r.Read(master)
		for _, epoch := range []int64{r.Int63n(1 << 62), r.Int63(), int64(r.Uint64()), r.Int63n(1000)} {
			checkList(t, fmt.Sprintf("the epoch %d", epoch), key(master, epoch), definedKey(master, epoch))
		}
	}
}

// wrongEpochs are outside 0 to 2^62; some look like one inside, if only some of their bits are read.
var wrongEpochs = []int64{math.MinInt64, math.MinInt64 + 1, math.MinInt64 + 5, -1 << 62, -1<<62 - 1, math.MinInt32, -1 << 32, -256, -2, -1, 1<<62 + 1, 1<<62 + 2, 1<<62 + 256, 1<<62 + 1<<32, 1<<62 + 1<<61, math.MaxInt64 - 1, math.MaxInt64}

// wrongKeys are keys that haven't 32 bytes.
func wrongKeys() [][]byte {
	keys := [][]byte{nil, {}, make([]byte, 0, 32), some(32, 1)[:0]}
	for _, n := range []int{1, 16, 31, 33, 64, 288, 65536 + 32} {
		keys = append(keys, make([]byte, n), some(n, 1))
	}
	return keys
}

// P8.1 and rule 3: masters and epochs that are refused, alone and together: no key beside the error.
func TestKeyRefused(t *testing.T) {
	refused := listed{Err: api.ErrArg}
	for _, master := range wrongKeys() {
		for _, epoch := range append([]int64{0, 1, 7, 1<<62 - 1, 1 << 62}, wrongEpochs...) {
			checkList(t, fmt.Sprintf("a master of %d bytes, the epoch %d", len(master), epoch), key(master, epoch), refused)
		}
	}
	for _, epoch := range wrongEpochs {
		for _, master := range [][]byte{make([]byte, 32), some(32, 2)} {
			checkList(t, fmt.Sprintf("the epoch %d", epoch), key(master, epoch), refused)
		}
	}
}

// P8.4: asked again, with other calls between, the keys are the same, whatever list the master lies in.
func TestKeyIsTheSame(t *testing.T) {
	first := map[int64][]byte{}
	for _, epoch := range epochs() {
		first[epoch] = bytes.Clone(key(some(32, 3), epoch).List)
	}
	for _, epoch := range slices.Backward(epochs()) {
		key(some(32, 4), epoch)
		key(nil, epoch)
		all := append(some(9, 1), some(32, 3)...)
		for _, master := range [][]byte{some(32, 3), all[9:], append(all[9:], 7)[:32]} {
			checkList(t, fmt.Sprintf("the epoch %d again", epoch), key(master, epoch), listed{List: first[epoch]})
		}
	}
}

// payloads are of all lengths that mean something, and of bytes that a mistake about noughts or heads would mix up.
func payloads() [][]byte {
	all := [][]byte{nil, {}, {0}, {1}, []byte("hello"), make([]byte, 48), bytes.Repeat([]byte{255}, 48), append(some(3, 1), 0, 0), append([]byte{0, 0}, some(3, 1)...), cellOf()[:40]}
	for _, n := range []int{1, 2, 16, 32, 47, 48} {
		all = append(all, some(n, byte(n)))
	}
	return all
}

// P8.1: what Wrap answers is onion.Wrap, hop by hop from the last to the first, in a cell, for each length of a chain.
func TestWrapHopByHop(t *testing.T) {
	for h := 1; h <= 8; h++ {
		keys, nonces := chain(h, byte(h))
		for i, payload := range payloads() {
			what := fmt.Sprintf("%d hops, payload %d", h, i)
			o, e := onion.Wrap(keys[h-1], nonces[h-1], 1, payload)
			for i := h - 2; i >= 0 && e == api.OK; i-- {
				o, e = onion.Wrap(keys[i], nonces[i], h-i, o)
			}
			if e != api.OK || len(o) != sizes[h-1] {
				t.Fatalf("%s: an onion of %d bytes, error %d", what, len(o), e)
			}
			want, _ := cell.Pad(o)
			got := wrap(keys, nonces, payload)
			checkList(t, what, got, listed{List: want})
			checkList(t, what+", by the words", got, definedWrap(keys, nonces, payload))
		}
	}
}

// P8.1, P8.2: payloads of each length, past the limit too, for each length of a chain.
func TestEveryLength(t *testing.T) {
	for h := 1; h <= 8; h++ {
		keys, nonces := chain(h, byte(3*h))
		for n := range 52 {
			payload := some(n, byte(n+h))
			what := fmt.Sprintf("%d hops, %d bytes", h, n)
			got := wrap(keys, nonces, payload)
			checkList(t, what, got, definedWrap(keys, nonces, payload))
			if n > 48 {
				checkList(t, what, got, listed{Err: api.ErrLong})
				continue
			}
			if way := walk(keys, got.List); len(way.Way) != h || !bytes.Equal(way.Way[h-1].Cell, plainOf(payload)) || way.Err != api.OK {
				t.Errorf("%s: %v", what, way)
			}
		}
	}
}

// P8.1, P8.2: the same key at each hop, the same nonce at each hop, both, and bytes of one kind.
func TestHopsAlike(t *testing.T) {
	noughts, ones := make([]byte, 32), bytes.Repeat([]byte{255}, 32)
	for h := 1; h <= 8; h++ {
		keys, nonces := chain(h, 50)
		for i, c := range []struct {
			keys   [][]byte
			nonces [][16]byte
		}{
			{slices.Repeat(keys[:1], h), nonces},
			{keys, slices.Repeat(nonces[:1], h)},
			{slices.Repeat(keys[:1], h), slices.Repeat(nonces[:1], h)},
			{slices.Repeat([][]byte{noughts}, h), make([][16]byte, h)},
			{slices.Repeat([][]byte{ones}, h), slices.Repeat([][16]byte{[16]byte(ones[:16])}, h)},
		} {
			what := fmt.Sprintf("%d hops, chain %d", h, i)
			got := wrap(c.keys, c.nonces, []byte("alike"))
			checkList(t, what, got, definedWrap(c.keys, c.nonces, []byte("alike")))
			way := walk(c.keys, got.List)
			checkWalk(t, what, way, definedWalk(c.keys, got.List))
			if way.Err != api.OK || !bytes.Equal(way.Way[h-1].Cell, plainOf([]byte("alike"))) {
				t.Errorf("%s: %v", what, way)
			}
		}
	}
}

// P8.1, P8.2, P8.3, P8.5: chains, nonces and payloads without a rule.
func TestAnyChain(t *testing.T) {
	r := rand.New(rand.NewSource(82))
	for range 400 {
		h := 1 + r.Intn(8)
		keys, nonces, payload := make([][]byte, h), make([][16]byte, h), make([]byte, r.Intn(49))
		for i := range h {
			keys[i] = make([]byte, 32)
			r.Read(keys[i])
			r.Read(nonces[i][:])
		}
		r.Read(payload)
		c := wrapped(t, keys, nonces, payload)
		checkList(t, "Wrap", listed{List: c}, definedWrap(keys, nonces, payload))
		way := walk(keys, c)
		checkWalk(t, "Walk", way, definedWalk(keys, c))
		checkWay(t, "Walk", keys, nonces, payload, way)
		at := r.Intn(320)
		turned := with(c, at, c[at]^byte(1+r.Intn(255)))
		checkWalk(t, "Walk of a turned cell", walk(keys, turned), definedWalk(keys, turned))
	}
}

// checkWay: each hop is taken, each cell is a cell and Wrap of the rest, and behind the last stands the payload.
func checkWay(t *testing.T, what string, keys [][]byte, nonces [][16]byte, payload []byte, got walked) {
	t.Helper()
	h := len(keys)
	if len(got.Way) != h || got.Err != api.OK {
		t.Fatalf("%s: %v", what, got)
	}
	for i, p := range got.Way {
		want := listed{}
		if i < h-1 {
			want = wrap(keys[i+1:], nonces[i+1:], payload)
		} else {
			want.List, want.Err = cell.Plain(payload)
		}
		checkList(t, fmt.Sprintf("%s: behind hop %d of %d", what, i, h), listed{List: p.Cell}, want)
		if len(p.Cell) != api.CellSize {
			t.Errorf("%s: behind hop %d of %d: %d bytes", what, i, h, len(p.Cell))
		}
	}
}

// P8.2, P8.3, P8.5: there and through, for each length of a chain: onion.Peel's answers hop by hop, each Cell and each Replay.
func TestThereAndThrough(t *testing.T) {
	for h := 1; h <= 8; h++ {
		keys, nonces := chain(h, byte(5*h))
		for i, payload := range payloads() {
			what := fmt.Sprintf("%d hops, payload %d", h, i)
			c := wrapped(t, keys, nonces, payload)
			got := walk(keys, c)
			checkWay(t, what, keys, nonces, payload, got)
			checkWalk(t, what+", by the words", got, definedWalk(keys, c))
			seen := map[[16]byte]int{}
			for i, p := range got.Way {
				want, e := onion.Peel(keys[i], h-i, c)
				if e != api.OK || !bytes.Equal(p.Cell, want.Cell) || p.Replay != want.Replay || p.Replay != replayOf(keys[i], c) {
					t.Errorf("%s: at hop %d %x with %x; want %x with %x", what, i, p.Cell, p.Replay, want.Cell, want.Replay)
				}
				seen[p.Replay]++
				c = p.Cell
			}
			if len(seen) != h {
				t.Errorf("%s: %d replay tags", what, len(seen))
			}
		}
	}
}

// P8.5: Wrap of a chain, peeled by its first hop, is Wrap of the rest; where there is no rest, the payload lies open.
func TestPeeledIsWrapOfTheRest(t *testing.T) {
	for h := 1; h <= 8; h++ {
		keys, nonces := chain(h, byte(7*h))
		for i, payload := range payloads() {
			what := fmt.Sprintf("%d hops, payload %d", h, i)
			p, e := onion.Peel(keys[0], h, wrapped(t, keys, nonces, payload))
			if h > 1 {
				checkList(t, what, listed{p.Cell, e}, wrap(keys[1:], nonces[1:], payload))
				continue
			}
			open, yes, f := cell.Open(p.Cell)
			if e != api.OK || f != api.OK || !yes || !bytes.Equal(open, payload) {
				t.Errorf("%s: %x, %v, errors %d and %d", what, open, yes, e, f)
			}
		}
	}
}

// P8.1: each byte of each key and of each nonce is in the cell, and so is their order.
func TestWrapHangsOnAll(t *testing.T) {
	keys, nonces := chain(3, 60)
	seen := map[string]int{string(wrapped(t, keys, nonces, []byte("all"))): 1}
	count := 1
	note := func(keys [][]byte, nonces [][16]byte, payload []byte) {
		seen[string(wrapped(t, keys, nonces, payload))]++
		count++
	}
	for i := range 3 {
		for at := range 32 {
			note(withKey(keys, i, with(keys[i], at, keys[i][at]^1)), nonces, []byte("all"))
		}
		for at := range 16 {
			other := slices.Clone(nonces)
			other[i][at] ^= 1
			note(keys, other, []byte("all"))
		}
	}
	note([][]byte{keys[1], keys[0], keys[2]}, nonces, []byte("all"))
	note([][]byte{keys[2], keys[1], keys[0]}, nonces, []byte("all"))
	note(keys, [][16]byte{nonces[0], nonces[2], nonces[1]}, []byte("all"))
	note(keys, nonces, []byte("al"))
	note(keys, nonces, []byte("all\x00"))
	note(keys[:2], nonces[:2], []byte("all"))
	if len(seen) != count {
		t.Errorf("%d cells of %d chains", len(seen), count)
	}
}

// P8.1 and rule 4: nil and empty are one and the same.
func TestNilIsEmpty(t *testing.T) {
	keys, nonces := chain(2, 1)
	for _, none := range [][][]byte{nil, {}, keys[:0]} {
		for _, no := range [][][16]byte{nil, {}, nonces[:0]} {
			checkList(t, "no hops", wrap(none, no, nil), listed{Err: api.ErrChain})
		}
		for _, c := range [][]byte{nil, {}, wrapped(t, keys, nonces, nil)} {
			checkWalk(t, "no hops", walk(none, c), walked{Err: api.ErrChain})
		}
	}
	want := definedWrap(keys, nonces, nil)
	for _, payload := range [][]byte{nil, {}, make([]byte, 0, 99), some(48, 1)[:0]} {
		checkList(t, "no payload", wrap(keys, nonces, payload), want)
	}
	for _, c := range [][]byte{nil, {}, want.List[:0]} {
		checkRefused(t, "no cell", keys, c, api.ErrSize)
	}
}

// P8.1 and rule 2: ErrChain ahead of all else: how many keys and nonces there are, whatever they and the payload are.
func TestChainsOfAnotherLength(t *testing.T) {
	keys, nonces := chain(9, 1)
	refused := listed{Err: api.ErrChain}
	for _, payload := range [][]byte{nil, some(48, 1), some(49, 1), make([]byte, 65536)} {
		for k := range 10 {
			for n := range 10 {
				for _, list := range [][][]byte{keys[:k], make([][]byte, k), slices.Repeat([][]byte{some(33, 1)}, k)} {
					got := wrap(list, nonces[:n], payload)
					checkList(t, fmt.Sprintf("%d keys and %d nonces", k, n), got, definedWrap(list, nonces[:n], payload))
					if k != n || k == 0 || k == 9 {
						checkList(t, fmt.Sprintf("%d keys and %d nonces", k, n), got, refused)
					}
				}
			}
		}
		for _, n := range []int{9, 10, 16, 255, 256, 257, 264, 65536, 65537} {
			many, more := slices.Repeat(keys[:1], n), make([][16]byte, n)
			checkList(t, fmt.Sprintf("%d hops", n), wrap(many, more, payload), refused)
			checkList(t, fmt.Sprintf("%d keys and a nonce", n), wrap(many, nonces[:1], payload), refused)
			checkList(t, fmt.Sprintf("a key and %d nonces", n), wrap(keys[:1], more, payload), refused)
			checkList(t, fmt.Sprintf("%d wrong keys", n), wrap(make([][]byte, n), more, payload), refused)
			checkWalk(t, fmt.Sprintf("Walk with %d keys", n), walk(many, payload), walked{Err: api.ErrChain})
			checkWalk(t, fmt.Sprintf("Walk with %d wrong keys", n), walk(make([][]byte, n), cellOf()), walked{Err: api.ErrChain})
		}
	}
}

// P8.1 and rule 2: a key that hasn't 32 bytes at each place of each chain, ahead of a payload that is too long.
func TestWrongKeysOfWrap(t *testing.T) {
	for h := 1; h <= 8; h++ {
		keys, nonces := chain(h, byte(h))
		for at := range h {
			for _, wrong := range wrongKeys() {
				for _, payload := range [][]byte{nil, some(48, 1), some(49, 1), make([]byte, 1000)} {
					what := fmt.Sprintf("%d hops, a key of %d bytes at %d, %d bytes", h, len(wrong), at, len(payload))
					checkList(t, what, wrap(withKey(keys, at, wrong), nonces, payload), listed{Err: api.ErrArg})
				}
			}
		}
		checkList(t, "two wrong keys", wrap(withKey(withKey(keys, 0, some(31, 1)), h-1, some(33, 1)), nonces, nil), listed{Err: api.ErrArg})
	}
}

// P8.1: payloads past the limit, though outer layers would have room for them.
func TestLongPayloads(t *testing.T) {
	for h := 1; h <= 8; h++ {
		keys, nonces := chain(h, byte(h))
		for _, n := range []int{49, 50, 82, 116, 286, 287, 320, 321, 256, 256 + 48, 65536, 65536 + 48, 1 << 20} {
			checkList(t, fmt.Sprintf("%d hops, %d bytes", h, n), wrap(keys, nonces, make([]byte, n)), listed{Err: api.ErrLong})
		}
		if got := wrap(keys, nonces, some(48, 1)); got.Err != api.OK || len(got.List) != 320 {
			t.Errorf("%d hops, 48 bytes: %v", h, got)
		}
	}
}

// P8.1: a key that is another at one place of the chain: the hop that has it refuses, and nothing is answered of those ahead of it.
func TestAnotherKey(t *testing.T) {
	for h := 1; h <= 8; h++ {
		keys, nonces := chain(h, byte(h+20))
		c := wrapped(t, keys, nonces, []byte("secret"))
		for at := range h {
			for _, other := range [][]byte{with(keys[at], 0, keys[at][0]^1), with(keys[at], 31, keys[at][31]^128), make([]byte, 32), keys[(at+1)%h]} {
				if bytes.Equal(other, keys[at]) {
					continue
				}
				checkRefused(t, fmt.Sprintf("%d hops, another key at %d", h, at), withKey(keys, at, other), c, api.ErrTag)
			}
		}
		backwards := slices.Clone(keys)
		slices.Reverse(backwards)
		if h > 1 {
			checkRefused(t, fmt.Sprintf("%d keys backwards", h), backwards, c, api.ErrTag)
		}
	}
}

// P8.1 and rule 2: a key that hasn't 32 bytes: the hop that has it refuses, but not ahead of a hop that refuses before it.
func TestWrongKeysOfWalk(t *testing.T) {
	for h := 1; h <= 8; h++ {
		keys, nonces := chain(h, byte(h+30))
		c := wrapped(t, keys, nonces, []byte("secret"))
		for at := range h {
			for _, wrong := range wrongKeys() {
				bad := withKey(keys, at, wrong)
				what := fmt.Sprintf("%d hops, a key of %d bytes at %d", h, len(wrong), at)
				checkRefused(t, what, bad, c, api.ErrArg)
				short, turned := api.ErrSize, api.ErrTag
				if at == 0 {
					short, turned = api.ErrArg, api.ErrArg
				}
				checkRefused(t, what+", a short cell", bad, c[:319], short)
				checkRefused(t, what+", a turned cell", bad, with(c, 40, c[40]^1), turned)
				for before := range at {
					checkRefused(t, what+", another ahead of it", withKey(bad, before, some(32, 99)), c, api.ErrTag)
				}
				for behind := at + 1; behind < h; behind++ {
					checkRefused(t, what+", another behind it", withKey(bad, behind, some(32, 99)), c, api.ErrArg)
				}
			}
		}
	}
}

// P8.1: each byte of the cell turned: the first hop refuses, by its tag or by the noughts behind the onion.
func TestTurnedBytes(t *testing.T) {
	for h := 1; h <= 8; h++ {
		keys, nonces := chain(h, byte(h+40))
		c := wrapped(t, keys, nonces, []byte("secret"))
		for at := range 320 {
			want := api.ErrTag
			if at >= sizes[h-1] {
				want = api.ErrPad
			}
			checkRefused(t, fmt.Sprintf("%d hops, byte %d turned", h, at), keys, with(c, at, c[at]^1<<(at%8)), want)
		}
	}
}

// P8.1: cells of another size, whatever they hold.
func TestCellsOfAnotherSize(t *testing.T) {
	for h := 1; h <= 8; h++ {
		keys, nonces := chain(h, byte(h+50))
		c := wrapped(t, keys, nonces, []byte("secret"))
		for _, n := range []int{0, 1, 32, 82, sizes[h-1] - 1, 256, 318, 319} {
			checkRefused(t, fmt.Sprintf("%d hops, %d bytes", h, n), keys, c[:n], api.ErrSize)
			checkRefused(t, fmt.Sprintf("%d hops, %d bytes without a rule", h, n), keys, some(n, 1), api.ErrSize)
		}
		for _, more := range []int{1, 2, 34, 256, 320, 65536} {
			checkRefused(t, fmt.Sprintf("%d hops, %d bytes more", h, more), keys, filled(320+more, c), api.ErrSize)
			checkRefused(t, fmt.Sprintf("%d hops, %d bytes more", h, more), keys, some(320+more, 1), api.ErrSize)
		}
	}
}

// P8.1: fewer or more keys than the cell was wrapped for, from either end of the chain.
func TestAnotherNumberOfKeys(t *testing.T) {
	all, allNonces := chain(8, 90)
	for h := 1; h <= 8; h++ {
		c := wrapped(t, all[:h], allNonces[:h], []byte("secret"))
		for n := 1; n <= 8; n++ {
			if n == h {
				continue
			}
			want := api.ErrTag
			if n < h {
				want = api.ErrPad
			}
			checkRefused(t, fmt.Sprintf("wrapped for %d, walked with %d", h, n), all[:n], c, want)
			if n < h {
				checkRefused(t, fmt.Sprintf("wrapped for %d, walked with the last %d", h, n), all[h-n:h], c, want)
			}
		}
		checkRefused(t, "no keys", nil, c, api.ErrChain)
		checkRefused(t, "nine keys", append(slices.Clone(all), all[0]), c, api.ErrChain)
	}
}

// P8.1: each hop of each chain refuses a cell that the hops ahead of it have taken, with each error that a cell can meet there.
func TestEachHopRefuses(t *testing.T) {
	for h := 1; h <= 8; h++ {
		keys, nonces := chain(h, byte(h+60))
		for at := range h {
			left := h - at
			good := layers(keys[at:], nonces[at:], left, []byte("secret"))
			room := sizes[left-1] - 34
			bad := map[string]api.Errno{
				string(with(good, 0, good[0]^1)):                                                              api.ErrTag,
				string(with(good, len(good)-1, good[len(good)-1]^1)):                                          api.ErrTag,
				string(boxed(keys[at], nonces[at], left, numbered(left, room+1, nil))):                        api.ErrBox,
				string(boxed(keys[at], nonces[at], left, numbered(left, 0xffff, nil))):                        api.ErrBox,
				string(boxed(keys[at], nonces[at], left, with(numbered(left, 3, nil), sizes[left-1]-33, 1))):  api.ErrBox,
				string(layer(keys[at], nonces[at], left%8+1, []byte("for another"))[:min(82, sizes[left-1])]): api.ErrTag,
				string(make([]byte, 82)): api.ErrTag,
				"":                       api.ErrTag,
			}
			for inner, e := range bad {
				c := cellOf(layers(keys, nonces, at, []byte(inner)))
				checkRefused(t, fmt.Sprintf("%d hops, at hop %d, %d bytes", h, at, len(inner)), keys, c, e)
			}
			c := cellOf(layers(keys, nonces, at, good))
			checkWay(t, "what isn't turned", keys, nonces, []byte("secret"), walk(keys, c))
		}
	}
}

// P8.1: an onion of fewer hops than the chain, in the layers of hops that are there: the hop whose left isn't its own refuses.
func TestOnionsOfAnotherLeft(t *testing.T) {
	keys, nonces := chain(8, 80)
	for at := 1; at < 8; at++ {
		for left := 1; left < 8-at; left++ {
			inner := layer(keys[at], nonces[at], left, []byte("short"))
			checkRefused(t, fmt.Sprintf("at hop %d for %d left", at, left), keys, cellOf(layers(keys, nonces, at, inner)), api.ErrTag)
		}
	}
}

// P8.1: bytes without a rule in the layers of the first hops: what the hop behind them says of them. (They can't be longer than its onion, so no hop but the first tells ErrPad.)
func TestAnyInside(t *testing.T) {
	r := rand.New(rand.NewSource(83))
	for range 200 {
		h := 2 + r.Intn(7)
		keys, nonces := chain(h, byte(r.Intn(256)))
		at := 1 + r.Intn(h-1)
		inner := make([]byte, r.Intn(sizes[h-at-1]+1))
		r.Read(inner)
		checkRefused(t, fmt.Sprintf("%d hops, at hop %d", h, at), keys, cellOf(layers(keys, nonces, at, inner)), api.ErrTag)
	}
}

// Rule 3: beside an error nothing else is answered.
func TestNothingBesideAnError(t *testing.T) {
	keys, nonces := chain(9, 70)
	c := wrapped(t, keys[:3], nonces[:3], []byte("secret"))
	lists := [][][]byte{nil, keys, keys[:2], keys[:4], withKey(keys[:3], 2, nil), withKey(keys[:3], 2, keys[0]), withKey(keys[:3], 1, some(33, 1))}
	for i, list := range lists {
		for _, n := range []int{0, 3, 48, 49} {
			for _, no := range [][][16]byte{nil, nonces[:3], nonces} {
				if p, e := route.Wrap(list, no, some(n, 1)); e != api.OK && len(p) != 0 {
					t.Errorf("Wrap with list %d: %d bytes beside error %d", i, len(p), e)
				}
			}
		}
		if way, e := route.Walk(list, c); e == api.OK || len(way) != 0 {
			t.Errorf("Walk with list %d: %d Peeled beside error %d", i, len(way), e)
		}
	}
	for _, epoch := range wrongEpochs {
		if p, e := route.Key(keys[0], epoch); e == api.OK || len(p) != 0 {
			t.Errorf("Key: %d bytes beside error %d", len(p), e)
		}
	}
}

// withRoom: p as a piece of a longer list, with room before and behind it, and the whole.
func withRoom(p []byte) (piece, all []byte) {
	all = join(some(7, 201), p, some(400, 202))
	return all[7 : 7+len(p)], all
}

// A handed is lists as they are handed in, each a piece of a longer one, and these longer ones, which must stay as they are.
type handed struct {
	keys   [][]byte
	nonces [][16]byte
	list   []byte

	lists     [][]byte // about each key, and about the list
	allKeys   [][]byte
	allNonces [][16]byte
}

func handIn(keys [][]byte, nonces [][16]byte, list []byte) *handed {
	h := &handed{}
	for _, key := range keys {
		piece, all := withRoom(key)
		h.allKeys, h.lists = append(h.allKeys, piece), append(h.lists, all)
	}
	for range 8 {
		h.allKeys = append(h.allKeys, some(32, 203))
	}
	h.keys = h.allKeys[:len(keys)]
	h.allNonces = append(slices.Clone(nonces), make([][16]byte, 8)...)
	h.nonces = h.allNonces[:len(nonces)]
	piece, all := withRoom(list)
	h.list, h.lists = piece, append(h.lists, all)
	return h
}

// bytes: all of it, the rooms too, in one list.
func (h *handed) bytes() []byte {
	p := join(join(h.lists...), join(h.allKeys...))
	for _, n := range h.allNonces {
		p = append(p, n[:]...)
	}
	return p
}

// scratch: writes over all of it.
func (h *handed) scratch() {
	for _, p := range h.lists {
		clear(p)
	}
	clear(h.allKeys)
	clear(h.allNonces)
}

// An ask is one call, told as the lists of its answer and the rest of it as a text.
type ask struct {
	name   string
	keys   [][]byte
	nonces [][16]byte
	list   []byte
	call   func(keys [][]byte, nonces [][16]byte, list []byte) ([][]byte, string)
}

func callKey(_ [][]byte, _ [][16]byte, master []byte) ([][]byte, string) {
	p, e := route.Key(master, 77)
	return [][]byte{p}, fmt.Sprint(int(e))
}

func callWrap(keys [][]byte, nonces [][16]byte, payload []byte) ([][]byte, string) {
	p, e := route.Wrap(keys, nonces, payload)
	return [][]byte{p}, fmt.Sprint(int(e))
}

func callWalk(keys [][]byte, _ [][16]byte, c []byte) ([][]byte, string) {
	way, e := route.Walk(keys, c)
	var lists [][]byte
	rest := fmt.Sprint(int(e))
	for _, p := range way {
		lists, rest = append(lists, p.Cell), rest+fmt.Sprintf(" %x", p.Replay)
	}
	return lists, rest
}

// asks: calls that are taken and calls that are refused.
func asks(t *testing.T) []ask {
	all := []ask{
		{"Key", nil, nil, some(32, 1), callKey},
		{"Key refused", nil, nil, some(31, 1), callKey},
	}
	for h := 1; h <= 8; h++ {
		keys, nonces := chain(h, byte(h+100))
		c := wrapped(t, keys, nonces, []byte("secret"))
		all = append(all,
			ask{fmt.Sprintf("Wrap for %d hops", h), keys, nonces, []byte("secret"), callWrap},
			ask{fmt.Sprintf("Wrap of nothing for %d hops", h), keys, nonces, nil, callWrap},
			ask{fmt.Sprintf("Wrap for %d hops refused", h), keys, nonces, some(49, 1), callWrap},
			ask{fmt.Sprintf("Wrap for %d hops and a nonce less", h), keys, nonces[1:], nil, callWrap},
			ask{fmt.Sprintf("Walk over %d hops", h), keys, nonces, c, callWalk},
			ask{fmt.Sprintf("Walk over %d hops refused", h), withKey(keys, h-1, some(32, 99)), nonces, c, callWalk},
		)
	}
	return all
}

// Rule 5: what is handed in stays as it is, its spare room too.
func TestListsStayAsTheyAre(t *testing.T) {
	for _, a := range asks(t) {
		h := handIn(a.keys, a.nonces, a.list)
		before := h.bytes()
		got, rest := a.call(h.keys, h.nonces, h.list)
		if !bytes.Equal(h.bytes(), before) {
			t.Errorf("%s: a list has changed", a.name)
		}
		if want, wantRest := a.call(a.keys, a.nonces, a.list); !slices.EqualFunc(got, want, bytes.Equal) || rest != wantRest {
			t.Errorf("%s: from pieces %x, %s; want %x, %s", a.name, got, rest, want, wantRest)
		}
	}
}

// Rule 5: an answer is memory of its own: written over, room and all, it changes neither a list nor another answer; and the lists written over change no answer.
func TestAnswersAreNew(t *testing.T) {
	for _, a := range asks(t) {
		h := handIn(a.keys, a.nonces, a.list)
		before := h.bytes()
		first, _ := a.call(h.keys, h.nonces, h.list)
		second, _ := a.call(h.keys, h.nonces, h.list)
		want := cloned(second)
		for _, p := range first {
			clear(p[:cap(p)])
		}
		if !slices.EqualFunc(second, want, bytes.Equal) {
			t.Errorf("%s: two answers share memory", a.name)
		}
		if !bytes.Equal(h.bytes(), before) {
			t.Errorf("%s: the answer shares memory with a list", a.name)
		}
		h.scratch()
		if !slices.EqualFunc(second, want, bytes.Equal) {
			t.Errorf("%s: the answer changes with a list", a.name)
		}
	}
}

func cloned(lists [][]byte) [][]byte {
	var copies [][]byte
	for _, p := range lists {
		copies = append(copies, bytes.Clone(p))
	}
	return copies
}

// Rule 5: no two cells of one walk share memory.
func TestCellsOfAWalkAreApart(t *testing.T) {
	for h := 1; h <= 8; h++ {
		keys, nonces := chain(h, byte(h+110))
		c := wrapped(t, keys, nonces, []byte("secret"))
		for at := range h {
			way := walk(keys, c).Way
			want := definedWalk(keys, c).Way
			clear(way[at].Cell[:cap(way[at].Cell)])
			clear(want[at].Cell)
			checkWalk(t, fmt.Sprintf("%d hops, the cell behind hop %d written over", h, at), walked{Way: way}, walked{Way: want})
		}
	}
}

// Rule 5: lists that lie in one another's memory tell nothing: one key for all hops, a payload inside a key, a cell about the keys.
func TestListsInOneMemory(t *testing.T) {
	for h := 1; h <= 8; h++ {
		all := some(320, byte(h))
		before := bytes.Clone(all)
		var keys, same [][]byte
		for i := range h {
			keys, same = append(keys, all[5*i:5*i+32]), append(same, before[5*i:5*i+32])
		}
		_, nonces := chain(h, 1)
		payload := all[20:60]
		c := wrap(keys, nonces, payload)
		checkList(t, "Wrap", c, definedWrap(same, nonces, before[20:60]))
		checkWalk(t, "Walk", walk(keys, c.List), definedWalk(same, c.List))
		checkWalk(t, "Walk of the list of the keys", walk(keys, all), definedWalk(same, before))
		if !bytes.Equal(all, before) {
			t.Errorf("%d hops: the list has changed", h)
		}
	}
}

// Rule 6: many calls at one time, over the same lists, answer as one alone does.
func TestManyAtOneTime(t *testing.T) {
	var all sync.WaitGroup
	for _, a := range asks(t) {
		want, wantRest := a.call(a.keys, a.nonces, a.list)
		for range 3 {
			all.Go(func() {
				if got, rest := a.call(a.keys, a.nonces, a.list); !slices.EqualFunc(got, want, bytes.Equal) || rest != wantRest {
					t.Errorf("%s: %x, %s; alone %x, %s", a.name, got, rest, want, wantRest)
				}
			})
		}
	}
	all.Wait()
}

func ExampleWrap() {
	first, _ := route.Key(make([]byte, 32), 7)
	second, _ := route.Key(make([]byte, 32), 8)
	keys, nonces := [][]byte{first, second}, [][16]byte{{1, 2, 3}, {4, 5, 6}}
	c, e := route.Wrap(keys, nonces, []byte("hi"))
	fmt.Printf("%d bytes, error %d\n", len(c), e)
	way, e := route.Walk(keys, c)
	payload, _, _ := cell.Open(way[1].Cell)
	fmt.Printf("behind %d hops: %s, error %d\n", len(way), payload, e)
	_, e = route.Walk([][]byte{second, first}, c)
	fmt.Printf("in another order: error %d\n", e)
	// Output:
	// 320 bytes, error 0
	// behind 2 hops: hi, error 0
	// in another order: error 70
}
