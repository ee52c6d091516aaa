package desk_test

import (
	"crypto/sha256"
	"encoding/hex"
	"testing"

	"churn/desk"
)

// knownTexts: the first bytes of the SHA-256 of texts that a lot draws, and of what another program, with keys, boxes, draws and windows of its own, answered to each.
var knownTexts = []struct{ text, answers string }{
	{"381eabb291d544cb", "a34f4282240d1a8df0c13f7352b87473"},
	{"b293ac8d1b9a2725", "5cd6108ef8bdb7b272eaabee3ef6bb4a"},
	{"88d6e1db25ee92c2", "a9d52119d89f8d5d46b181ee6a5a8215"},
	{"dd219976dc2eb4a8", "ead0f4b75b833a5dbc32f0468f88dc21"},
	{"69a9b4085b8a152e", "0dadc80324d14f83f1f799b47f5ca1b1"},
	{"eb05958502c355e5", "36e10aeaeec71945b15f41f473b8986a"},
	{"f98d41a7e06f08c2", "be17168ee0fc9951e943332a52bc529f"},
	{"6c13b2b76a159a52", "b3bb737720b4fbd68f4188587c154021"},
	{"f234fc778ab8a4f0", "9a70276792af82190d43c9c5aed8056b"},
	{"afe4e454a7be44f3", "a7e29f40c9cb62f0ea76cd5c48fc7e2e"},
	{"f39fe7a00853d8d6", "2be6ac74ffe33f762abeec9aa5e01e41"},
	{"a796c96f1cfb7fd7", "647cfb8a42d8a544d0f616963fc44cc0"},
	{"dec48a336ab3825b", "a5b752522dc03b4ffb33ba872c602b48"},
	{"cb6998a61edb6965", "547a05912b8edf4617a2ef1e718b7d65"},
	{"10fcaeaf92f2b6a7", "6e281b5ff1cb1f7ae10f55fd8281ab17"},
	{"14c9d6cfca371f72", "371cecd414a1dcd042c169f22e1ec3c3"},
	{"5daeb48af3f768b2", "7770e7a0463435d5a73b339a94c5f02e"},
	{"870460ea81d70288", "e3ebfaf79149a41a64e4647a722af8e9"},
	{"42b59d84a28db874", "bf809ebca05063968a3640527f38ac1a"},
	{"01f9207fb0e52be8", "a9d586d21973d7e892e6822a3290469c"},
	{"c997c84f26e5aaf7", "402427a6132ff04faf994795e09dec45"},
	{"fcc27e128d024ff1", "e31e470517f71a39e589f9d194287164"},
	{"4d8add8ce0c12822", "283a0d5817a319e33fe34373dd1633cd"},
	{"63deda707bed43dd", "aefaab5f2fa8422b966edc42ac5212ec"},
	{"f58f372433d10ebf", "c0a374472176dc01161c9e1818db5e99"},
	{"e6095b61c00beb69", "536c7cb11f011e22a417f54df22ab625"},
	{"185b753b75db1cbc", "0e278b1e1b0d953003e1ddc38494adbd"},
	{"e36bd46acc7bb97b", "a1d49e73b82ae638f52dd383a4136fcd"},
	{"9e2c8a79c8f88d96", "6807cffbd224049fd372a0960d870560"},
	{"66796b92d0bb5e72", "5c4de1068db1466cc8f39b9bb82ce088"},
	{"6b2b391246a3169c", "3ee6c337f6b8ebff8dea913e2bc6b50d"},
	{"f3a38b54b850ac4a", "d11edad40c7570224859e4c3bc5d1576"},
	{"49a3059516c044c3", "521a7c336f9832137df0164f84f90a4d"},
	{"517ffbde876d3b15", "9b011e91a2d3eaf3f52f9cf210599bc5"},
	{"b71bba74da1cb4f8", "3c6c5362aa597bf8c1494aba4ed8be52"},
	{"22ba0ee63afc606e", "53f5115373e6f507ea836de4ea31dc19"},
	{"398600914e2e0940", "080821c65df66acd3882665481fd660b"},
	{"d09d5a0f35918fe0", "62e18c8c3fd0a1117543d92f1128f350"},
	{"7b96b49068391209", "6a1ff8e5ee3c85d99e410e6c5395b74d"},
	{"c08d6da87d8add12", "eb7ac661d8a5c3ec79abf58af90b855d"},
}

// beginningOf: the first bytes of the SHA-256, as many as there are in so many digits.
func beginningOf(text string, digits int) string {
	sum := sha256.Sum256([]byte(text))
	return hex.EncodeToString(sum[:])[:digits]
}

// P26.1: texts of which another program told the answers.
func TestKnownTexts(t *testing.T) {
	for n, k := range knownTexts {
		all, _ := newLot(2640 + int64(n)).text(60)
		text := lines(all...)
		if got := beginningOf(text, 16); got != k.text {
			t.Fatalf("text %d is another one than that which the other program read: %s, not %s", n, got, k.text)
		}
		if got := desk.Run(text); beginningOf(got, 32) != k.answers {
			t.Errorf("text %d:\n%s\nanswers:\n%s\nof the sum %s; want %s", n, short(text), short(got), beginningOf(got, 32), k.answers)
		}
	}
}

// P26.1: what that program answered to the text of a net with noise, in full.
func TestKnownNet(t *testing.T) {
	check(t, "a net", net(), lines(
		"ok",
		"ok",
		"ok",
		"cell 0",
		"cell 1",
		"2 0 0 2 4; 4 2 0 2 4",
		"7061796c6f61642031 7061796c6f61642032",
		"667ebefb1b4b5e3acdae9d3db84e2701f51abac42a4eb3bfd33e5f309e405856",
		"cell 1",
		"cell 2",
		"2 0 1 2 3; 3 2 0 2 3",
		"7061796c6f61642033",
		"3ae08ef9ea7325d37d85c0e1f8a0158a1579d1eb872eb25879d58e8a27c0d432",
		"cell 3",
		"1 0 0 2 3; 3 2 0 2 3",
		"7061796c6f61642034",
		"13e679d2e58e9148e9c1bbbe1deddb3fc1efb79e5676a05a68c7b32a419eb027",
		"",
	))
}
