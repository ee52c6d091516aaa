package desk_test

import (
	"fmt"
	"slices"
	"strings"
	"testing"
)

// scripts: of each kind.
var scripts = []string{"-", "0", "1", "7,7,7", "3,1,4,1,5,9,2,6", "4611686018427387904,0,2147483648", strings.Repeat("1,0,5,", 400) + "2"}

// P26.1 and P2: a round by each engine, with scripts of each kind.
func TestGo(t *testing.T) {
	for _, engine := range engines {
		for _, script := range scripts {
			text := lines(loudHop(0), hop(1), loudHop(2), "open", "at 3 9", send(3, 1), send(3, 2), "again 0", "raw "+word(some(320, 2610)))
			says(t, engine+" "+script, text, play(engine, script, 3, loud(120, 2611)), "4 1 1 2 4; 4 2 0 0 2; 2 0 0 2 4", "show", answerTo(lines(text, play("mix", "-", 3, loud(120, 2611))), "show"))
		}
	}
}

// P26.1: too few tapes and too many: ErrWord, and the batch and the round stay.
func TestNumberOfTapes(t *testing.T) {
	for n := 1; n <= 8; n++ {
		ahead := lines(opened(n), "at 7 3", send(n, 1))
		went := lines(ahead, mixed(n))
		var pairs []string
		for tapes := range 12 {
			if tapes != n {
				pairs = append(pairs, play(engines[tapes%3], "-", tapes, long), "error 260")
			}
		}
		says(t, fmt.Sprint(n, " hops"), ahead, slices.Concat(pairs, []string{mixed(n), strings.Repeat("1 0 0 0 1; ", n-1) + "1 0 0 0 1", "sum", answerTo(went, "sum")})...)
	}
}

// P26.1: each hop has a tape of its own, in their order.
func TestEachHopsTape(t *testing.T) {
	text := lines(loudHop(0), loudHop(1), loudHop(2), "open", send(3, 1))
	few, many := "0000"+word(some(100, 2612)), loud(102, 2613)
	says(t, "the first", text, "go mix - "+many+" "+few+" "+few, "1 0 0 2 3; 3 2 0 0 1; 1 0 0 0 1")
	says(t, "the second", text, "go mix - "+few+" "+many+" "+few, "1 0 0 0 1; 1 0 0 2 3; 3 2 0 0 1")
	says(t, "the third", text, "go mix - "+few+" "+few+" "+many, "1 0 0 0 1; 1 0 0 0 1; 1 0 0 2 3")
	says(t, "no tape is read behind a refusal", text, "go mix - - "+many+" "+few, "error 3", "go mix - "+few+" 00 "+many, "0 0 0 0 0; error 3")
}

// P26.1: each error of cascade.Entry: of the header, of the number of cells, of a cell. The batch, the round and the last output stay.
func TestEntryRefused(t *testing.T) {
	ahead := lines(opened(1), "at 3 4", send(1, 1), mixed(1), send(1, 2))
	sum := answerTo(ahead, "sum")
	says(t, "a cell", lines(ahead, "raw 00", send(1, 3)), mixed(1), "error 64", mixed(1), "error 64", "show", payload(1), "sum", sum, "at 5 4", "ok", mixed(1), "error 64", "sum", sum)
	says(t, "the round", lines(ahead, "at 4611686018427387904 4"), mixed(1), "error 62", mixed(1), "error 62", "show", payload(1), "sum", sum, "at 4 4", "ok", mixed(1), "1 0 0 0 1", "show", payload(2))
	many := lines(opened(1), send(1, 1), strings.TrimSuffix(strings.Repeat("again 0\n", 255), "\n"))
	says(t, "256 cells", many, mixed(1), "256 0 255 0 1", "show", payload(1))
	says(t, "257 cells", lines(many, "again 0"), mixed(1), "error 63", mixed(1), "error 63", "show", "error 262", "open", "ok", mixed(1), "0 0 0 0 0")
	says(t, "257 cells, one of them bad", lines(many, "raw -"), mixed(1), "error 63")
	says(t, "257 cells in a round that there isn't", lines(many, "raw -", "at 4611686018427387904 0"), mixed(1), "error 62")
	says(t, "a bad cell in a round that there isn't", lines(opened(1), "raw -", "at 4611686018427387904 0"), mixed(1), "error 62")
	says(t, "8000 cells", lines(opened(1), "raw 00", strings.TrimSuffix(strings.Repeat("again 0\n", 7999), "\n")), mixed(1), "error 63")
}

// P26.1: refused at the first hop, in the middle and at the last: the outcomes up to there are told, the batch is empty, the round one greater, and there is no last output; then it is played on.
func TestRefusedAndPlayedOn(t *testing.T) {
	for hops := 1; hops <= 4; hops++ {
		whole := strings.Repeat("1 0 0 0 1; ", hops-1) + "1 0 0 0 1"
		none := strings.Repeat("0 0 0 0 0; ", hops-1) + "0 0 0 0 0"
		for at := range hops {
			tapes := slices.Repeat([]string{long}, hops)
			tapes[at] = strings.Repeat("ab", 17)
			for _, engine := range engines {
				ahead := lines(opened(hops), "at 5 6", send(hops, 0), mixed(hops), send(hops, 1))
				refused := "go " + engine + " 2,1 " + strings.Join(tapes, " ")
				again := whole // the first hop doesn't know the cell
				if at > 0 {
					again = strings.Replace(none, "0 0 0", "1 0 1", 1)
				}
				says(t, fmt.Sprintf("%d hops, refused at %d", hops, at), ahead, refused, strings.Repeat("1 0 0 0 1; ", at)+"error 3", "show", "error 262", "sum", "error 262",
					play(engine, "-", hops, long), none, "sum", answerTo(lines(opened(hops), "at 7 6", mixed(hops)), "sum"),
					"again 1", "cell 1", play(engine, "-", hops, long), again, send(hops, 2), "cell 2", mixed(hops), whole, "show", payload(2))
			}
		}
	}
}

// P26.1: the causes for which the hops refuse, at each hop.
func TestCausesOfRefusal(t *testing.T) {
	tight := "hop " + word(master(1)) + " 2 1 0 1 0 2 3 1 2"
	says(t, "a window that is full", lines(hop(0), tight, hop(2), "open", send(3, 1), send(3, 2)), mixed(3), "2 0 0 0 2; error 160", "show", "error 262", send(3, 3), "cell 2", mixed(3), "1 0 0 0 1; 1 0 0 0 1; 1 0 0 0 1", "show", payload(3))
	says(t, "a tape too short for the shuffle", lines(opened(2), send(2, 1), send(2, 2)), "go line 9 "+long+" "+word(make([]byte, 19)), "2 0 0 0 2; error 3", "go crew - "+word(make([]byte, 18))+" "+word(make([]byte, 18)), "0 0 0 0 0; 0 0 0 0 0")
	says(t, "an epoch that is too far", lines(opened(2), "at 0 1024"), mixed(2), "0 0 0 0 0; 0 0 0 0 0", "at 1 2049", "ok", mixed(2), "error 161", "at 2 2048", "ok", mixed(2), "0 0 0 0 0; 0 0 0 0 0")
	narrow := "hop " + word(master(1)) + " 1 400 0 1 0 2 3 1 2"
	says(t, "an epoch that the second keeps no more", lines(hop(0), narrow, "open", "at 0 5", mixed(2)), "at 1 4", "ok", mixed(2), "0 0 0 0 0; error 161", "at 1 5", "ok", mixed(2), "error 211", mixed(2), "0 0 0 0 0; 0 0 0 0 0")
	var many []string
	for k := range 256 {
		many = append(many, send(1, k))
	}
	crowd := lines(loudHop(0), "open", lines(many...))
	says(t, "a crowd", crowd, play("crew", "-", 1, loud(1000, 2614)), "error 213", "again 0", "cell 0", play("line", "5", 1, loud(1000, 2614)), "1 0 0 2 3", "show", payload(0))
	says(t, "no crowd", crowd, play("line", "5", 1, "0000"+word(some(3000, 2615))), "256 0 0 0 256")
}

// P26.1: behind a go that reached the cascade the batch is empty, and the round one greater.
func TestBatchAndRoundBehind(t *testing.T) {
	ahead := lines(opened(1), "at 5 2", send(1, 1), send(1, 2), "again 0")
	for n := range 5 {
		text := ahead
		for range n {
			text = lines(text, mixed(1))
		}
		same(t, fmt.Sprint(n, " rounds"), lines(text, mixed(1), "show", "sum"))
		if n > 0 {
			says(t, fmt.Sprint(n, " rounds"), text, mixed(1), "0 0 0 0 0", "sum", answerTo(lines(opened(1), fmt.Sprint("at ", 5+n, " 2"), mixed(1)), "sum"))
		}
	}
}

// P26.1: the last rounds that there are: 2^62 - 1 is played, and behind it the round is 2^62 and stays so.
func TestLastRound(t *testing.T) {
	for _, engine := range engines {
		says(t, engine, lines(opened(2), "at 4611686018427387902 4611686018427387904"), play(engine, "-", 2, long), "error 161")
		ahead := lines(opened(2), "at 4611686018427387902 9", send(2, 1))
		says(t, engine, ahead, play(engine, "-", 2, long), "1 0 0 0 1; 1 0 0 0 1", send(2, 2), "cell 1", play(engine, "-", 2, long), "1 0 0 0 1; 1 0 0 0 1", "show", payload(2), "sum", answerTo(lines(opened(2), "at 4611686018427387903 9", send(2, 2), mixed(2)), "sum"),
			send(2, 3), "cell 2", play(engine, "-", 2, long), "error 62", play(engine, "-", 2, long), "error 62", "show", payload(2), "at 4611686018427387903 9", "ok", play(engine, "-", 2, long), "error 211", play(engine, "-", 2, long), "error 62", "show", "error 262")
		says(t, engine+", refused at the last round", lines(opened(2), "at 4611686018427387903 9"), "go "+engine+" - - -", "error 3", "go "+engine+" - - -", "error 62")
	}
}

// P5, as far as a desk shows it: what was sent comes out just once, from any place of a batch, and again it adds nothing.
func TestComesThroughOnce(t *testing.T) {
	for at := range 6 {
		list := []string{send(3, 1), send(3, 2), "raw " + word(make([]byte, 320)), send(3, 1), "again 0"}
		list = slices.Insert(list, at, "send 5e "+nonce(9, 0)+" "+nonce(9, 1)+" "+nonce(9, 2))
		text := lines(loudHop(0), loudHop(1), loudHop(2), "open", lines(list...), play("crew", "-", 3, loud(200, int64(at))))
		out := strings.Fields(answerTo(text, "show"))
		slices.Sort(out)
		if want := []string{"5e", payload(1), payload(2)}; !slices.Equal(out, want) {
			t.Errorf("place %d: %v", at, out)
		}
		same(t, "once", lines(text, "show"))
		for number := range 5 {
			text = lines(text, fmt.Sprint("again ", number), play("line", "3", 3, loud(200, int64(number))))
			says(t, fmt.Sprint("again ", number), text, "show", "none")
		}
	}
}
