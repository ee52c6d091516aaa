package desk_test

import (
	"crypto/sha256"
	"encoding/binary"
	"encoding/hex"
	"fmt"
	"hash/adler32"
	"slices"
	"strings"
	"testing"

	"churn/desk"
)

// P26.1: eight hops are taken, and no ninth, whatever they are, opened or not.
func TestHops(t *testing.T) {
	for n := range 8 {
		says(t, fmt.Sprint(n, " hops"), hops(n), hop(n), "ok")
	}
	says(t, "nine hops", hops(8), hop(8), "error 1", hop(8), "error 1", "open", "ok", hop(8), "error 1", send(8, 1), "cell 0", send(9, 1), "error 260", mixed(8), strings.Repeat("1 0 0 0 1; ", 7)+"1 0 0 0 1", "show", payload(1))
	says(t, "hops that can't be opened", strings.Repeat("hop - 0 0 0 0 0 0 0 0 0\n", 7), "hop - 9 9 9 9 9 9 9 9 9", "ok", hop(0), "error 1", "open", "error 210", hop(0), "error 1")
}

// changedHop: hop's line with another word at a place, the command's own counted.
func changedHop(i, at int, word string) string {
	list := strings.Fields(hop(i))
	list[at] = word
	return strings.Join(list, " ")
}

// bounds: of each of hop's numbers, by its place, a fitting least and greatest one, and those that don't fit. (Num is at most Den, which is 1.)
var bounds = map[int]struct{ fits, misfits []string }{
	2: {[]string{"1", "8"}, []string{"0", "9"}}, 3: {[]string{"0", "4096"}, []string{"4097"}}, 4: {[]string{"0", "1"}, []string{"2", "1000"}}, 5: {[]string{"1", "1000"}, []string{"0", "1001"}}, 6: {[]string{"0", "16"}, []string{"17"}},
	7: {[]string{"1", "64"}, []string{"0", "65"}}, 8: {[]string{"1", "64"}, []string{"0", "65"}}, 9: {[]string{"0", "1024"}, []string{"1025"}}, 10: {[]string{"1", "64"}, []string{"0", "65"}},
}

// P26.1: hop takes any bytes and numbers; whether they fit, open alone tells, as cascade.New does.
func TestHopsThatDoNotFit(t *testing.T) {
	says(t, "right", hop(0), "open", "ok")
	for _, key := range []string{"-", "00", strings.Repeat("00", 31), strings.Repeat("00", 33), strings.Repeat("00", 3000)} {
		says(t, "a master of another length", "", changedHop(0, 1, key), "ok", "open", "error 210")
	}
	for at, x := range bounds {
		for _, n := range x.fits {
			says(t, fmt.Sprint("number ", at), "", changedHop(0, at, n), "ok", "open", "ok")
		}
		for _, n := range append(x.misfits, "2147483648", "4294967297", "4611686018427387904") {
			says(t, fmt.Sprint("number ", at), "", changedHop(0, at, n), "ok", "open", "error 210", "open", "error 210", hop(1), "ok", "open", "error 210")
			for place := range 3 {
				list := []string{hop(0), hop(1), hop(2)}
				list[place] = changedHop(place, at, n)
				says(t, fmt.Sprint("number ", at, " of hop ", place), lines(list...), "open", "error 210", send(3, 1), "error 262")
			}
		}
	}
}

// P26.1: each of hop's words goes to its own number: another one at its place shows in what a round comes to.
func TestHopsNumbersCount(t *testing.T) {
	text := func(line string) string {
		return lines(line, "open", send(1, 1), send(1, 2), send(1, 3), send(1, 4), send(1, 5), play("mix", "-", 1, "a000"+word(some(300, 2601))), "show", "at 1 5", send(1, 6), mixed(1), "at 2 4", mixed(1), "at 3 3", mixed(1), "at 4 6", send(1, 7), mixed(1))
	}
	line := "hop " + word(master(0)) + " 2 6 1 2 3 2 1 0 1"
	first := same(t, "a hop", text(line))
	for at, n := range map[int]string{1: word(master(1)), 2: "3", 3: "4", 4: "2", 5: "9", 6: "1", 7: "3"} {
		list := strings.Fields(line)
		list[at] = n
		if got := same(t, "another one", text(strings.Join(list, " "))); slices.Equal(got, first) && at != 1 {
			t.Errorf("word %d shows nowhere: %v", at, got)
		}
	}
	for at, n := range map[int]string{8: "64", 9: "1024", 10: "64"} {
		list := strings.Fields(line)
		list[at] = n
		if got := same(t, "another one", text(strings.Join(list, " "))); !slices.Equal(got, first) {
			t.Errorf("word %d shows: %v, not %v", at, got, first)
		}
	}
}

// P26.1: open without hops, and refused: the cascade that was there, its cells, its batch and the last output stay.
func TestOpenRefused(t *testing.T) {
	says(t, "no hops", "", "open", "error 262", "open", "error 262", send(1, 1), "error 262", "raw 00", "error 262", mixed(1), "error 262", hop(0), "ok", "open", "ok")
	net := lines(opened(2), send(2, 1), send(2, 2), mixed(2), send(2, 3), "again 0", "hop - 1 1 1 1 1 1 1 1 1")
	sum := answerTo(net, "sum")
	says(t, "refused", net, "open", "error 210", "again 2", "cell 2", "sum", sum, "show", answerTo(net, "show"), send(3, 4), "error 260", send(2, 4), "cell 3", mixed(3), "error 260", mixed(2), "4 0 2 0 2; 2 0 0 0 2", "show", lists(3, 4))
}

// lists: the payloads of these clients as show tells them.
func lists(clients ...int) string {
	var list []string
	for _, k := range clients {
		list = append(list, payload(k))
	}
	return strings.Join(list, " ")
}

// P26.1: opened again, the desk has new servers, and no cells, no batch and no last output; round and epoch stay.
func TestOpenAgain(t *testing.T) {
	net := lines(opened(1), "at 9 4", send(1, 1), send(1, 2), mixed(1), send(1, 3), "open")
	says(t, "again", net, "show", "error 262", "sum", "error 262", "again 0", "error 262", "again 2", "error 262", mixed(1), "0 0 0 0 0", "show", "none")
	says(t, "its cells are new ones", net, send(1, 1), "cell 0", "again 1", "error 262", "again 0", "cell 0", mixed(1), "2 0 1 0 1", "show", payload(1))
	says(t, "at the same epoch", net, "raw "+word(cellOf(1, 4, 7)), "cell 0", "raw "+word(cellOf(1, 0, 8)), "cell 1", mixed(1), "2 1 0 0 1", "show", payload(7))
	at := lines(opened(1), "at 10 4", mixed(1), "sum")
	if list := same(t, "its round is the next one", lines(net, mixed(1), "sum")); list[len(list)-1] != answerTo(at, "sum") {
		t.Errorf("behind open it is not round 10: %v", list)
	}
	says(t, "a batch that can't be played is gone", lines(opened(1), "raw 00"), mixed(1), "error 64", mixed(1), "error 64", "open", "ok", mixed(1), "0 0 0 0 0")
	says(t, "an earlier round", lines(opened(1), "at 9 0", mixed(1), "open"), "at 0 0", "ok", mixed(1), "0 0 0 0 0", "at 0 0", "ok", mixed(1), "error 211")
}

// P26.1: hops that are named behind open are no hops of the cascade, but of the one that is opened then.
func TestHopsBehindOpen(t *testing.T) {
	says(t, "behind open", lines(opened(1), hop(1), hop(2)), send(1, 1), "cell 0", send(2, 1), "error 260", send(3, 1), "error 260", mixed(3), "error 260", mixed(1), "1 0 0 0 1", "show", payload(1),
		"open", "ok", send(1, 2), "error 260", send(3, 2), "cell 0", mixed(1), "error 260", mixed(3), "1 0 0 0 1; 1 0 0 0 1; 1 0 0 0 1", "show", payload(2), hop(3), "ok", send(3, 3), "cell 1", mixed(3), "1 0 0 0 1; 1 0 0 0 1; 1 0 0 0 1", "show", payload(3))
	says(t, "bad ones", lines(opened(1), "hop - 1 1 1 1 1 1 1 1 1"), send(1, 1), "cell 0", "open", "error 210", mixed(1), "1 0 0 0 1", "show", payload(1))
}

// P26.1: as many hops as there may be, each with a Left of its own: the first peels first.
func TestEachNumberOfHops(t *testing.T) {
	for n := 1; n <= 8; n++ {
		went := strings.Repeat("2 0 0 0 2; ", n-1) + "2 0 0 0 2"
		for _, engine := range engines {
			text := lines(opened(n), send(n, 1), send(n, 2))
			says(t, fmt.Sprint(n, " hops by ", engine), text, play(engine, "3,1", n, long), went)
			got := same(t, "what came through", lines(text, play(engine, "3,1", n, long), "show"))
			if end := got[len(got)-1]; end != lists(1, 2) && end != lists(2, 1) {
				t.Errorf("%d hops by %s: %s", n, engine, end)
			}
		}
	}
}

// P26.1: at sets what comes next, with and without a cascade, as often as one likes; the epoch goes into the cells, and both into the batch.
func TestAt(t *testing.T) {
	says(t, "at", "at 5 6", opened(1), "ok\nok", "raw "+word(cellOf(1, 6, 1)), "cell 0", mixed(1), "1 0 0 0 1", "show", payload(1))
	says(t, "from the beginning", opened(1), "raw "+word(cellOf(1, 0, 1)), "cell 0", mixed(1), "1 0 0 0 1", "show", payload(1))
	says(t, "another epoch behind send", lines(opened(1), "at 0 6", send(1, 1), "at 0 7"), mixed(1), "1 1 0 0 0", "at 1 6", "ok", "again 0", "cell 0", mixed(1), "1 0 0 0 1", "show", payload(1))
	says(t, "refused", lines(opened(1), "at 5 6"), "at 7", "error 260", "at 7 x", "error 261", "at x 7", "error 261", "at 7 4611686018427387905", "error 261", mixed(1), "0 0 0 0 0", "sum", answerTo(lines(opened(1), "at 5 6", mixed(1)), "sum"))
	says(t, "a round that is over", lines(opened(1), "at 5 6", mixed(1)), "at 5 6", "ok", mixed(1), "error 211", mixed(1), "0 0 0 0 0", "at 4 6", "ok", mixed(1), "error 211", mixed(1), "error 211", mixed(1), "error 211", mixed(1), "0 0 0 0 0")
	says(t, "epochs", opened(1), "at 0 1025", "ok", mixed(1), "error 161", "at 0 1024", "ok", mixed(1), "0 0 0 0 0", "at 1 1023", "ok", mixed(1), "0 0 0 0 0", "at 2 1022", "ok", mixed(1), "error 161", "at 9 2048", "ok", mixed(1), "0 0 0 0 0", "at 10 4611686018427387904", "ok", send(1, 1), "cell 0", mixed(1), "error 161")
}

// P26.1: send with too few and too many nonces, and each error of cascade.Submit that there can be: a payload that is too long. What is refused makes no cell.
func TestSend(t *testing.T) {
	for n := 1; n <= 8; n++ {
		for nonces := range 11 {
			want := "error 260"
			if nonces == n {
				want = "cell 0"
			}
			says(t, fmt.Sprint(nonces, " nonces for ", n), opened(n), send(nonces, 1), want)
		}
	}
	for length := range 60 {
		want, out := "cell 1", lists(1)+" "+word(make([]byte, length))
		if length > 48 {
			want, out = "error 1", lists(1)
		}
		zero := "send " + word(make([]byte, length)) + " " + nonce(2, 0)
		says(t, fmt.Sprint("a payload of ", length), lines(opened(1), send(1, 1)), zero, want, "again 1", map[bool]string{true: "cell 1", false: "error 262"}[length <= 48])
		if got := same(t, "a payload's length", lines(opened(1), send(1, 1), zero, mixed(1), "show")); got[len(got)-1] != out && got[len(got)-1] != word(make([]byte, length))+" "+lists(1) {
			t.Errorf("a payload of %d: %v", length, got)
		}
	}
	says(t, "a cell behind what was refused", lines(opened(1), send(1, 1)), send(2, 2), "error 260", "send 0 "+nonce(1, 0), "error 261", "send "+strings.Repeat("00", 49)+" "+nonce(1, 0), "error 1", send(1, 2), "cell 1", mixed(1), "2 0 0 0 2")
	says(t, "the same twice", lines(opened(1), send(1, 1)), send(1, 1), "cell 1", mixed(1), "2 0 1 0 1", "show", payload(1))
}

// P26.1: raw makes a cell of any bytes; whether they are one, go alone tells.
func TestRaw(t *testing.T) {
	for _, length := range []int{0, 1, 2, 319, 321, 640, 30000} {
		line := "raw " + word(some(length, 2602))
		says(t, fmt.Sprint(length, " bytes"), opened(1), line, "cell 0", mixed(1), "error 64", "again 0", "cell 0", mixed(1), "error 64")
		says(t, fmt.Sprint(length, " bytes"), lines(opened(1), send(1, 1)), line, "cell 1", send(1, 2), "cell 2", mixed(1), "error 64")
	}
	says(t, "320 bytes", lines(opened(1), send(1, 1)), "raw "+word(some(320, 2602)), "cell 1", send(1, 2), "cell 2", mixed(1), "3 1 0 0 2")
	says(t, "an onion by hand", opened(2), "raw "+word(cellOf(2, 0, 5)), "cell 0", mixed(2), "1 0 0 0 1; 1 0 0 0 1", "show", payload(5))
	says(t, "without a cascade", hops(2), "raw 00", "error 262", "open", "ok", "raw 00", "cell 0", "raw 0", "error 261", "raw", "error 260", "raw 00", "cell 1", "again 1", "cell 1")
}

// P26.1: again of each cell that there is and of none; a cell stands in the batch as often as one likes, and in later batches.
func TestAgain(t *testing.T) {
	net := lines(opened(1), send(1, 0), send(1, 1), send(1, 2))
	says(t, "numbers", net, "again 3", "error 262", "again 2", "cell 2", "again 0", "cell 0", "again 1", "cell 1", "again 4294967296", "error 262", "again 4611686018427387904", "error 262", mixed(1), "6 0 3 0 3", "again 3", "error 262", "again 2", "cell 2", mixed(1), "1 0 1 0 0")
	says(t, "no cells", opened(1), "again 0", "error 262", send(1, 1), "cell 0", "again 0", "cell 0", "again 1", "error 262")
	says(t, "in order", lines(opened(1), send(1, 0), send(1, 1), mixed(1), "open", send(1, 1), send(1, 0), "again 1", "again 0"), play("mix", "-", 1, long), "4 0 2 0 2")
	says(t, "in a batch of another epoch", lines(net, mixed(1), "at 7 9"), "again 0", "cell 0", mixed(1), "1 1 0 0 0")
	says(t, "a cell that is none", lines(opened(1), "raw 00", "open", send(1, 1), mixed(1), "raw 00"), "again 1", "cell 1", "again 0", "cell 0", mixed(1), "error 64")
}

// P26.1: show of no payloads, of one without bytes, of several, in the order of the last output; and without one.
func TestShow(t *testing.T) {
	says(t, "none", opened(1), "show", "error 262", mixed(1), "0 0 0 0 0", "show", "none", "show", "none")
	says(t, "one without bytes", lines(opened(1), "send - "+nonce(1, 0), mixed(1)), "show", "-", "show", "-")
	says(t, "noise alone", lines(loudHop(0), "open"), play("mix", "-", 1, loud(60, 2603)), "0 0 0 2 2", "show", "none")
	says(t, "one and noise", lines(loudHop(0), "open", send(1, 1)), play("mix", "-", 1, loud(60, 2603)), "1 0 0 2 3", "show", payload(1))
	says(t, "the same payload twice", lines(opened(1), "send 0a "+nonce(1, 0), "send 0a "+nonce(2, 0), mixed(1)), "show", "0a 0a")
	says(t, "bytes of letters", lines(opened(1), "send ABCDEF "+nonce(1, 0), mixed(1)), "show", "abcdef")
	seen := map[string]bool{}
	for n := range 30 {
		text := lines(opened(1), "send - "+nonce(1, 0), send(1, 1), send(1, 2), play("mix", "-", 1, word(make([]byte, 18))+word(some(90, int64(n)))), "show")
		got := same(t, "several", text)
		seen[got[len(got)-1]] = true
	}
	if len(seen) != 6 {
		t.Errorf("three payloads were seen in the orders %v", seen)
	}
}

// P26.1: show and sum without a last output: ahead of any round, behind one that was refused at any hop, and behind open.
func TestNoLastOutput(t *testing.T) {
	for _, text := range []string{"", hop(0), opened(1), lines(opened(1), send(1, 1)), lines(opened(1), mixed(1), play("mix", "-", 1, "-")), lines(opened(1), mixed(1), "open"), lines(opened(2), mixed(2), "go mix - "+long+" 00"), lines(opened(2), mixed(2), "go mix - 00 "+long)} {
		says(t, "no output", text, "show", "error 262", "sum", "error 262", "show", "error 262", "show x", "error 260", "sum x", "error 260")
	}
	net := lines(opened(2), send(2, 1), mixed(2))
	sum := answerTo(net, "sum")
	says(t, "it stays", net, "show", payload(1), "sum", sum, send(2, 2), "cell 1", "at 9 9", "ok", "go x -", "error 260", "go mix ,", "error 261", mixed(1), "error 260", "raw 00", "cell 2", mixed(2), "error 64", hop(2), "ok", "again 9", "error 262", "show", payload(1), "sum", sum)
}

// footed: the bytes of these digits, and the foot of a batch.
func footed(digits string) []byte {
	p, err := hex.DecodeString(digits)
	if err != nil {
		panic(err)
	}
	return binary.BigEndian.AppendUint32(p, adler32.Checksum(p))
}

// P26.1: sum is the digest of the last output's bytes, in small digits.
func TestSum(t *testing.T) {
	for n := range 20 {
		text := lines(opened(2), "at "+fmt.Sprint(n*n)+" 3", send(2, n), send(2, n+1), mixed(2))
		m := &model{}
		for line := range strings.SplitSeq(text, "\n") {
			m.line(line)
		}
		digest := sha256.Sum256(m.last)
		says(t, "sum", text, "sum", hex.EncodeToString(digest[:]), "sum", hex.EncodeToString(digest[:]))
	}
	empty := "4348524e" + "01" + "00" + "0000" + "0000000000000007" + "0000000000000001"
	says(t, "of no cells", lines(opened(1), "at 7 1", mixed(1)), "sum", fmt.Sprintf("%x", sha256.Sum256(footed(empty))))
	if got := desk.Run(lines(opened(1), mixed(1), "sum")); got != strings.ToLower(got) || len(got) != len("ok\nok\n0 0 0 0 0\n")+65 {
		t.Errorf("%q", got)
	}
}
