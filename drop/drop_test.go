package drop_test

import (
	"fmt"
	"math/rand"
	"slices"
	"strings"
	"testing"

	"churn/api"
	"churn/drop"
)

// P28.1: the chapter's examples.
func TestExamples(t *testing.T) {
	checkRequest(t, "room0001", "hi", laid{"room0001hi", 0})
	checkRequest(t, "room0001", filled(41, 'x'), laid{"", api.ErrLong})
	checkRequest(t, "room0001", filled(40, 'x'), laid{"room0001" + filled(40, 'x'), 0})
	checkAnswer(t, "\x01hi", heard{drop.Met, "hi", 0})
	checkAnswer(t, "\x01", heard{drop.Met, "", 0})
	checkAnswer(t, "\x00", heard{drop.Alone, "", 0})
	checkAnswer(t, "\x03", heard{drop.Broken, "", 0})
	for _, none := range []string{"", "\x04", "\x00\x00", "\x02x", "\x01" + filled(41, 'x')} {
		checkAnswer(t, none, heard{0, "", api.ErrAnswer})
	}
	checkAnswers(t, "two at one drop and one alone", exchange("room0001hi", "room0002", "room0001ho"), []string{"\x01ho", "\x00", "\x01hi"})
	checkAnswers(t, "three at one drop", exchange("aaaaaaaax", "aaaaaaaay", "aaaaaaaaz", "short"), []string{"\x02", "\x02", "\x02", "\x03"})
	checkAnswers(t, "two that are the same", exchange("aaaaaaaa", "aaaaaaaa"), []string{"\x01", "\x01"})
}

// P28.1: the numbers that the chapter gives.
func TestNumbers(t *testing.T) {
	if numbers := [4]int{drop.Alone, drop.Met, drop.Crowded, drop.Broken}; numbers != [4]int{0, 1, 2, 3} {
		t.Errorf("Alone, Met, Crowded and Broken are %v", numbers)
	}
	if a := request("room0001", filled(41, 0)); a.Err != 1 {
		t.Errorf("a long message: error %d", a.Err)
	}
	if a := answer(nil); a.Err != 280 {
		t.Errorf("no answer: error %d", a.Err)
	}
}

// P28.1: messages of each length, past the limit too.
func TestRequestEveryLength(t *testing.T) {
	for n := range 60 {
		for _, message := range []string{filled(n, 0), filled(n, 255), string(some(n, byte(n)))} {
			want := laid{"room0001" + message, 0}
			if n > 40 {
				want = laid{Err: api.ErrLong}
			}
			checkRequest(t, "room0001", message, want)
		}
	}
	for _, n := range []int{48, 255, 256, 256 + 40, 320, 65535, 65536, 65536 + 40, 1 << 20} {
		checkRequest(t, "room0001", filled(n, 'x'), laid{Err: api.ErrLong})
	}
}

// P28.1: names of any bytes, each byte at each place, with and without a message.
func TestRequestEveryName(t *testing.T) {
	for at := range 8 {
		for b := range 256 {
			p := make([]byte, 8)
			p[at] = byte(b)
			name := string(p)
			checkRequest(t, name, "", laid{name, 0})
			checkRequest(t, name, name+name, laid{name + name + name, 0})
			checkRequest(t, name, filled(41, byte(b)), laid{Err: api.ErrLong})
		}
	}
}

// P28.1: messages of any bytes.
func TestRequestAnyBytes(t *testing.T) {
	r := rand.New(rand.NewSource(280))
	for range 2000 {
		name, message := drawn(r, 8), drawn(r, r.Intn(45))
		checkRequest(t, name, message, definedRequest(name, message))
	}
}

// P28.1: each single byte.
func TestAnswerEveryByte(t *testing.T) {
	for b := range 256 {
		want := heard{b, "", 0}
		if b > 3 {
			want = heard{Err: api.ErrAnswer}
		}
		checkAnswer(t, string([]byte{byte(b)}), want)
	}
}

// P28.1: each first byte with 0 to 60 bytes behind it: a message stands behind a 1 alone, of 40 bytes at most.
func TestAnswerEveryLength(t *testing.T) {
	for b := range 256 {
		for n := range 60 {
			for _, message := range []string{filled(n, 0), filled(n, byte(b)), string(some(n, byte(b)))} {
				want := heard{Err: api.ErrAnswer}
				if b == 1 && n <= 40 || b <= 3 && n == 0 {
					want = heard{b, message, 0}
				}
				checkAnswer(t, string([]byte{byte(b)})+message, want)
			}
		}
	}
}

// P28.1: each byte behind each first byte that tells how an answer came about.
func TestAnswerEveryByteBehind(t *testing.T) {
	for b := range 256 {
		behind := string([]byte{byte(b)})
		checkAnswer(t, "\x01"+behind, heard{1, behind, 0})
		for _, first := range []string{"\x00", "\x02", "\x03", "\x04", "\xff"} {
			checkAnswer(t, first+behind, heard{Err: api.ErrAnswer})
		}
	}
}

// P28.1: lists that are far too long.
func TestAnswerOfLongLists(t *testing.T) {
	for _, n := range []int{48, 49, 128, 255, 256, 257, 256 + 41, 319, 320, 65535, 65536, 65537, 65536 + 41, 1 << 20} {
		for b := range 5 {
			checkAnswer(t, filled(n, byte(b)), heard{Err: api.ErrAnswer})
			checkAnswer(t, string([]byte{byte(b)})+filled(n, 0), heard{Err: api.ErrAnswer})
		}
	}
}

// P28.1: no list at all.
func TestExchangeOfNothing(t *testing.T) {
	for _, none := range [][][]byte{nil, {}, make([][]byte, 0, 9)} {
		if answers := drop.Exchange(none); len(answers) != 0 {
			t.Errorf("%q", answers)
		}
	}
}

// P28.1: one list of each length: from 8 to 48 bytes it is a request, alone at its drop.
func TestExchangeOfOne(t *testing.T) {
	for n := range 51 {
		for _, p := range []string{filled(n, 0), filled(n, 255), string(some(n, byte(n)))} {
			want := "\x00"
			if n < 8 || n > 48 {
				want = "\x03"
			}
			checkAnswers(t, fmt.Sprintf("one of %d bytes", n), exchange(p), []string{want})
			checkExchange(t, fmt.Sprintf("one of %d bytes", n), p)
		}
	}
	for _, n := range []int{255, 256, 256 + 8, 256 + 48, 320, 65536, 65536 + 8, 65536 + 48, 1 << 20} {
		checkAnswers(t, fmt.Sprintf("one of %d bytes", n), exchange(filled(n, 'a')), []string{"\x03"})
	}
}

// P28.1: two lists of each length that begin alike.
func TestExchangeOfTwo(t *testing.T) {
	for n := range 51 {
		for m := range 51 {
			first, second := string(some(51, 1)[:n]), string(some(8, 1))+string(some(43, 2))
			second = second[:m]
			want := []string{"\x00", "\x00"}
			if n < 8 || n > 48 {
				want[0] = "\x03"
			}
			if m < 8 || m > 48 {
				want[1] = "\x03"
			}
			if want[0] == "\x00" && want[1] == "\x00" {
				want = []string{"\x01" + second[8:], "\x01" + first[8:]}
			}
			checkAnswers(t, fmt.Sprintf("%d and %d bytes", n, m), exchange(first, second), want)
			checkExchange(t, fmt.Sprintf("%d and %d bytes", n, m), first, second)
		}
	}
}

// P28.1: all lists of up to five out of requests at three drops, with and without a message, and of what is no request.
func TestExchangeOfAFew(t *testing.T) {
	parts := []string{"aaaaaaaa", "aaaaaaaax", "aaaaaaaabbbbbbbb", "bbbbbbbbaaaaaaaa", "aaaaaaab", "aaaaaaa", "aaaaaaaa" + filled(41, 'x')}
	longest := 5
	if testing.Short() {
		longest = 4
	}
	var all func(row []string)
	all = func(row []string) {
		checkExchange(t, fmt.Sprintf("%q", row), row...)
		if len(row) == longest {
			return
		}
		for _, p := range parts {
			all(append(slices.Clone(row), p))
		}
	}
	all(nil)
}

// P28.1: each number of requests at one drop, mixed with what is no request at each place.
func TestExchangeOfACrowd(t *testing.T) {
	for n := range 12 {
		var row []string
		for i := range n {
			row = append(row, fmt.Sprintf("aaaaaaaa%d", i))
		}
		checkExchange(t, fmt.Sprintf("%d at one drop", n), row...)
		for i := range n + 1 {
			for _, none := range []string{"", "aaaaaaa", "aaaaaaaa" + filled(41, '0'), "\x01"} {
				checkExchange(t, fmt.Sprintf("%d at one drop, %q at %d", n, none, i), slices.Insert(slices.Clone(row), i, none)...)
			}
			checkExchange(t, fmt.Sprintf("%d at one drop, another's at %d", n, i), slices.Insert(slices.Clone(row), i, "bbbbbbbbaaaaaaaa")...)
		}
	}
	for _, n := range []int{254, 255, 256, 257, 258, 512, 65535, 65536, 65537, 65538} {
		checkAnswers(t, fmt.Sprintf("%d at one drop", n), exchange(many(n, "aaaaaaaax")...), many(n, "\x02"))
	}
}

// P28.1: two that are the same, byte for byte, are two; three are three.
func TestExchangeOfTheSame(t *testing.T) {
	for n := range 41 {
		message := string(some(n, byte(n)))
		p := "aaaaaaaa" + message
		checkAnswers(t, "one", exchange(p), []string{"\x00"})
		checkAnswers(t, "twice the same", exchange(p, p), many(2, "\x01"+message))
		checkAnswers(t, "three times the same", exchange(p, p, p), many(3, "\x02"))
	}
	same := []byte("aaaaaaaahi")
	checkAnswers(t, "the same list twice", texts(drop.Exchange([][]byte{same, same})), many(2, "\x01hi"))
	checkAnswers(t, "the same list three times", texts(drop.Exchange([][]byte{same, same, same})), many(3, "\x02"))
}

// P28.1: names that differ in one byte at each place are other drops, whatever the byte.
func TestNamesNearOneAnother(t *testing.T) {
	for _, name := range []string{"room0001", filled(8, 0), filled(8, 255)} {
		for at := range 8 {
			row, want := []string{name + "x"}, []string{"\x00"}
			for b := range 256 {
				if other := []byte(name); byte(b) != name[at] {
					other[at] = byte(b)
					checkAnswers(t, "two names", exchange(name+"x", string(other)+"x"), []string{"\x00", "\x00"})
					row, want = append(row, string(other)+"x"), append(want, "\x00")
				}
			}
			checkAnswers(t, fmt.Sprintf("all bytes at %d", at), exchange(row...), want)
			checkAnswers(t, fmt.Sprintf("all bytes at %d, each twice", at), exchange(append(row, row...)...), many(512, "\x01x"))
		}
	}
}

// P28.1: a name is 8 bytes: what the message begins with has no say in where a request lies, nor have letters' cases, noughts and spaces.
func TestMessagesAreNoNames(t *testing.T) {
	for _, c := range [][2]string{
		{"aaaaaaaa", "aaaaaaab"}, {"aaaaaaaabbbbbbbb", "bbbbbbbbaaaaaaaa"}, {"aaaaaaaa", "baaaaaaaa"}, {"aaaaaaaab", "aaaaaaabb"},
		{"room0001", "ROOM0001"}, {"room000\x00", "room000 "}, {"\x00room000", "room000\x00"}, {"room0001", "1000moor"}, {"caf\xc3\xa9000", "cafe\xcc\x8100"},
	} {
		checkAnswers(t, fmt.Sprintf("%q", c), exchange(c[0], c[1]), []string{"\x00", "\x00"})
	}
	for _, c := range [][2]string{
		{"aaaaaaaa", "aaaaaaaaa"}, {"aaaaaaaabbbbbbbb", "aaaaaaaa"}, {"aaaaaaaa\x00", "aaaaaaaa"}, {"\x00\x00\x00\x00\x00\x00\x00\x00", "\x00\x00\x00\x00\x00\x00\x00\x00\x00"},
		{"aaaaaaaa\x01", "aaaaaaaa\x02"}, {"aaaaaaaa\x01\x00", "aaaaaaaa" + filled(40, 255)}, {"\xff\xfe\xfd\xfc\xfb\xfa\xf9\xf8", "\xff\xfe\xfd\xfc\xfb\xfa\xf9\xf8\xf7"},
	} {
		checkAnswers(t, fmt.Sprintf("%q", c), exchange(c[0], c[1]), []string{"\x01" + c[1][8:], "\x01" + c[0][8:]})
	}
}

// P28.1: who is first and who is second in a list, at several drops at one time.
func TestPairsAcrossOneAnother(t *testing.T) {
	checkAnswers(t, "one behind the other", exchange("aaaaaaaa1", "aaaaaaaa2", "bbbbbbbb3", "bbbbbbbb4"), []string{"\x012", "\x011", "\x014", "\x013"})
	checkAnswers(t, "in turns", exchange("aaaaaaaa1", "bbbbbbbb3", "aaaaaaaa2", "bbbbbbbb4"), []string{"\x012", "\x014", "\x011", "\x013"})
	checkAnswers(t, "one within the other", exchange("aaaaaaaa1", "bbbbbbbb3", "bbbbbbbb4", "aaaaaaaa2"), []string{"\x012", "\x014", "\x013", "\x011"})
	checkAnswers(t, "a third", exchange("aaaaaaaa1", "bbbbbbbb3", "bbbbbbbb4", "aaaaaaaa2", "aaaaaaaa5"), []string{"\x02", "\x014", "\x013", "\x02", "\x02"})
	checkAnswers(t, "all at each other's", exchange("", "aaaaaaaa1", strings.Repeat("a", 49), "bbbbbbbb", "aaaaaaa", "aaaaaaaa2"), []string{"\x03", "\x012", "\x03", "\x00", "\x03", "\x011"})
}

// P28.1: lists without a rule.
func TestAnyRequests(t *testing.T) {
	r := rand.New(rand.NewSource(281))
	for i := range 3000 {
		checkExchange(t, fmt.Sprintf("drawn lists, number %d", i), crowd(r, r.Intn(40))...)
	}
}

// P28.1: a great many lists: alone, in pairs, in threes, all at one drop, and no requests.
func TestAGreatMany(t *testing.T) {
	n := 60000
	if testing.Short() {
		n = 6000
	}
	var alone, pairs, threes, apart []string
	for i := range n {
		message := fmt.Sprint(i)
		alone = append(alone, fmt.Sprintf("%08d", i)+message)
		pairs = append(pairs, fmt.Sprintf("%08d", i/2)+message)
		threes = append(threes, fmt.Sprintf("%08d", i/3)+message)
		apart = append(apart, fmt.Sprintf("%08d", i%(n/2))+message)
	}
	checkAnswers(t, "each alone", exchange(alone...), many(n, "\x00"))
	checkAnswers(t, "in threes", exchange(threes...), many(n, "\x02"))
	checkAnswers(t, "all at one drop", exchange(many(n, "aaaaaaaax")...), many(n, "\x02"))
	checkAnswers(t, "no requests", exchange(many(n, "aaaaaaa")...), many(n, "\x03"))
	near, far := exchange(pairs...), exchange(apart...)
	for i := range n {
		if want := fmt.Sprintf("\x01%d", i^1); near[i] != want {
			t.Fatalf("pairs: answer %d is %q; want %q", i, near[i], want)
		}
		if want := fmt.Sprintf("\x01%d", (i+n/2)%n); far[i] != want {
			t.Fatalf("pairs far from one another: answer %d is %q; want %q", i, far[i], want)
		}
	}
}
