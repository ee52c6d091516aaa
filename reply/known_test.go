package reply_test

import (
	"bytes"
	"encoding/hex"
	"fmt"
	"slices"
	"testing"

	"churn/api"
	"churn/route"
)

// What these tests hold answers against was reckoned by another program, from the chapters' words, with an AES of its own.

// counted: n bytes, each one greater than the one ahead.
func counted(n int, from byte) []byte {
	p := make([]byte, n)
	for i := range p {
		p[i] = from + byte(i)
	}
	return p
}

func checkHex(t *testing.T, what string, got told, want string) {
	t.Helper()
	if hex.EncodeToString(got.List) != want || got.Err != api.OK {
		t.Errorf("%s: %x, error %d; want %s", what, got.List, got.Err, want)
	}
}

// P27.1: keys of the way back: HKDF-SHA256 with the info of ten bytes.
func TestKnownKeys(t *testing.T) {
	ones := bytes.Repeat([]byte{255}, 32)
	for i, c := range []struct {
		key   []byte
		nonce [16]byte
		want  string
	}{
		{make([]byte, 32), [16]byte{}, "b37dd37f4ff07a47debaed85ed8a87edc3c8026cd43718192d61b8e3009970a4"},
		{make([]byte, 32), [16]byte(counted(16, 0)), "e7b50eedbc33080e59b21c82f2e56c0aab280e89587eb9fd885cca5046dc73ab"},
		{make([]byte, 32), [16]byte(ones[:16]), "c9a0f503f2ebc3ff5d6b218958392e476b8f9509a651026eb98bfdbc940a3d0d"},
		{make([]byte, 32), [16]byte{15: 1}, "59ae3c487bb1572b234f83ef476d463b039b2fdfff51eef06b17f08f1dd0528e"},
		{make([]byte, 32), [16]byte{128}, "d3b564f730aadb8339a1bbbd312e158afffeaabf80ee30dc4fabb78a34edeb0f"},
		{counted(32, 0), [16]byte{}, "0ca8a5a69047e2e8fde1c6b083b7f745173c0ca2ea2d015779bc2ca8a50bf39a"},
		{counted(32, 0), [16]byte(counted(16, 0)), "f82b9b8de5588dd1234806f430e25cf8802686eab1f7a8d8c1c3cb9c5659e4c8"},
		{counted(32, 0), [16]byte(ones[:16]), "414b35603fee12a3db9bc7be85b3abbbd9de28fabd47f6b3dc24065a6eaa659c"},
		{counted(32, 0), [16]byte{15: 1}, "4c25c37d6d4781addaf3d0b54727047889ffb28b0edb557cc72ecf0a5b881b9c"},
		{counted(32, 0), [16]byte{128}, "5a44d8654ac271083cca27a27a11c88fe4f9e26892c0b125e1f169ab0b6bad44"},
		{ones, [16]byte{}, "ca0df6313c4d7822daf0a3eee9a389aa835c47fa11d6adc33348078a70956280"},
		{ones, [16]byte(counted(16, 0)), "82fb18c13e52f4548ffe7e6780e81fddbce4e28a4165bf28e192e79bbd8b1c51"},
		{ones, [16]byte(ones[:16]), "058aaeb9fd88aebf3489fccca11ae310de579aec4f16849298892593c11f2b55"},
		{ones, [16]byte{15: 1}, "99b4ba263a3e2eb88b2588e57040c264b9435817fec108241fd0b89314da90b7"},
		{ones, [16]byte{128}, "f9af623d85c7a988a63b0bb1ae94366bdef9d50446f6cccf0988572b77c87a75"},
	} {
		checkHex(t, fmt.Sprintf("key %d", i), key(c.key, c.nonce), c.want)
	}
}

// P27.1: layers, under a key and a nonce of bytes that count on.
func TestKnownLayers(t *testing.T) {
	for _, c := range []struct {
		left  int
		inner []byte
		want  string
	}{
		{1, nil, "000102030405060708090a0b0c0d0e0f59e24cae0a19edc27e5109a75689c02017cf51e7622b97e5267c3bd24f09fa617901d29a57fd40c75bb06b812b75289968c2e2199b8914a80659f4b0cadfb476c042"},
		{1, []byte("hi"), "000102030405060708090a0b0c0d0e0fd12cda5baf28d9cc35af5e0941ff309817cd398e622b97e5267c3bd24f09fa617901d29a57fd40c75bb06b812b75289968c2e2199b8914a80659f4b0cadfb476c042"},
		{2, nil, "000102030405060708090a0b0c0d0e0f3ad250a291826a7cdf79696f28220fb317cf51e7622b97e5267c3bd24f09fa617901d29a57fd40c75bb06b812b75289968c2e2199b8914a80659f4b0cadfb476c0424e382a7788b69ceaeefc9940369d7d5522f7fe39e230e2e96895b0c6938be4487d52"},
		{2, counted(82, 0), "000102030405060708090a0b0c0d0e0f092628e702b4d6ca2f5c743a36224b0b179d51e6602893e0207b33db4502f66c770ec28b45ee54d24da77398316e348476ddc238b9aa308d207edc99e0f4985bee6d7e091844bc83aaddd6c5a37b0aa0436a62b6bc7aa675a4ae20dcfa8ddfc6aa072d03"},
		{5, []byte("five"), "000102030405060708090a0b0c0d0e0f2b9d07659f425ccdbe05eec7e3939b9717cb378e144e97e5267c3bd24f09fa617901d29a57fd40c75bb06b812b75289968c2e2199b8914a80659f4b0cadfb476c0424e382a7788b69ceaeefc9940369d7d5522f7fe39e230e2e96895b0c6938be4487d5263ed4f109b3e0dfc12d3be233fdbc34a670756c32e25e88b1a814b2a4dd4804b65c9b16b35aa1742ef6ddd616154a84272bf8ce8fe35b713c3c6186da74052d0f771d02849eabdc52f1fc45b5096488c433d4e526fe5d837020d1d907b168e3aef9c4cf52f96"},
		{8, counted(199, 1), "000102030405060708090a0b0c0d0e0fd84fc9a1937870b85db942323ee0d226170850e5612f92e3217432d84405f76f7611c38844e955d14ca8729b3069358777e2c33bb8ad318e2171dd9ae1f39958ef727f0a1943bd80abd2d7c6a27c0ba3421563b5bd7da776a5a121dffb8adec5ab182c0030b91a46cc6654a6498fe37d60bba228046333a5494d81e171ed264422a4f13916bdc41d42d26e389411a01f1ed429c0f13b096e79bd3e99484a95e328d0c34264e545bede72245fb48359c5cf36e92ee099ebf4c84d719da9a1b03ed4a63f885c28f943982e1322e19445a0ecee02b7764ee1ac1d11e422eb8196c5fd12f11e920a9c491394a6167b2a2484df435ac23311ef674e510cf42dc3c720747a927f4762f3a8c7ba98c9982b033954912fb1b2a9fe148d38ca34c246bd7178139a8a26293f18a7eb3445d1b934ba"},
	} {
		checkHex(t, fmt.Sprintf("left %d, %d bytes", c.left, len(c.inner)), wrap(counted(32, 0), [16]byte(counted(16, 0)), c.left, c.inner), c.want)
	}
}

// knownHops: the hops' keys are those of the epochs 7, 8, .. under masters of one byte each; the nonces count on.
func knownHops(h int) ([][]byte, [][16]byte) {
	keys, nonces := make([][]byte, h), make([][16]byte, h)
	for i := range h {
		keys[i], _ = route.Key(bytes.Repeat([]byte{byte(i + 1)}, 32), int64(7+i))
		nonces[i] = [16]byte(counted(16, byte(16*i)))
	}
	return keys, nonces
}

// P27.1, P27.2: cells on their way back, without the noughts behind them, and what is heard of them; one nonce at each hop, and one key too.
func TestKnownCells(t *testing.T) {
	keys, nonces := knownHops(8)
	one, all := slices.Repeat(nonces[:1], 3), [][]byte{counted(32, 0), counted(32, 0)}
	for i, c := range []struct {
		keys    [][]byte
		nonces  [][16]byte
		payload []byte
		want    string
	}{
		{keys[:1], nonces[:1], nil, "000102030405060708090a0b0c0d0e0f1dddc3ed341019b8d3a0a551e95b1f028195d8121fc3bac4e3b2dc6c6c358cd47ad72e2cee9c726b03878b66c00123b9c649f06728030eb938827248e62926c6957b"},
		{keys[:2], nonces[:2], []byte("hello"), "000102030405060708090a0b0c0d0e0f7ddf1b1738cfe28d2f1e00aceaaf6ddf81c7c8030dd0aed1f5a5c475762e90c964c8ad6aac788b982eb1ceabe9c19e17278571f328d32d5f9699d2d057b954da1556f45b40c657ccd8137917f0bba9faea910ce09048c35220ad41d085d3903825073ff9"},
		{keys[:3], nonces[:3], []byte("three hops"), "000102030405060708090a0b0c0d0e0fbf752df3ac525585f10ba116ad63388e81e1c8030dd0aed1f5a5c475762e90c964c8aea548d556b0bb496ff2963ab7045edd71a460976310ddbcf4f77f907ef1397bda745c8b0af74e01353678465203793f147a6546848ad134b1ad9c05b287e64c8d16bd878432d455d15ce48ca899a001bd17a3e1f27758701fd9f18461fb6195a63a68cc"},
		{keys[:8], nonces[:8], counted(48, 200), "000102030405060708090a0b0c0d0e0f2ba9e25e27812eb26be19d7ef174f591808bc8030dd0aed1f5a5c475762e90c964c827713cdfe19fb7614b7bd9d763dce84c710a60976310ddbcf4f77f907ef1397bda742777f8930f59856b698770ed279664416596c0d39162e0b8c25dfacddc77b12b83b8d85c374af5d914b5b6eb659f9b7da8319d93887ad40a935eac8243bfbc6d21bf9c970f77618dbfc2384749bed970e12ae0898940e4fca43a7045d5a322b560dc3156f6126e8c18785f4ce007ce41e8a2981137422bfe1993f60ec9614dd0ddf31d15bb8e568dd3411880c03e8dd49ba35dc779c614f0399aaba4fede2dfb0cb1ba7c4ee81449ea3e9274ad2c03ac4437676771fa40630405fcff4032b0d52f7c6ea43bf39045d41b92e2d5d16e771d1b0acd0935f46e926b90a80204ef1de164ce7d4d38375dfcd8c36f"},
		{keys[:3], one, []byte("again"), "000102030405060708090a0b0c0d0e0f2b2cddb7ed51f052021a72e0e97d986481e1d8131dc0bec1e5b5d465663e80d974d8942ed80015cadbaca88d03a11d5972b84e740d2c1f78a4922e52a6bedc49f1931a0564481a50fa32dfcef5cb3c32faa50108f1f4154222eaa5470985aee6155760c6476ebab1ff06d928e48cd60820cb7e3dc1310c22581836abc284e9598d80d6b289fe"},
		{all, one[:2], []byte("again"), "000102030405060708090a0b0c0d0e0fa05413b3ba7ae8e4cd665d70912b0ed4179d51e6602893e0207b33db4502f66c770e80191f712c8dcb938284f5be02d0b4e2f5d3ab0917eaffbcd2ccf10dfb7f3a233739f8eddf4bdc2db54cf2c11de855cc4a351c2079b9f6416ecc44765954503ebd10"},
	} {
		o, err := hex.DecodeString(c.want)
		if err != nil || len(o) != sizes[len(c.keys)-1] {
			t.Fatalf("chain %d: %d bytes, %v", i, len(o), err)
		}
		what := fmt.Sprintf("chain %d", i)
		check(t, what, chain(c.keys, c.nonces, c.payload), told{List: cellOf(o)})
		check(t, what, open(c.keys, c.nonces, cellOf(o)), told{List: c.payload})
	}
}
