package drop_test

import (
	"bytes"
	"fmt"
	"math/rand"
	"slices"
	"testing"

	"churn/api"
	"churn/cell"
	"churn/drop"
)

// rows: lists of requests: short ones of each make, and drawn ones.
func rows() [][]string {
	all := [][]string{
		nil,
		{"aaaaaaaa"},
		{"short"},
		{"aaaaaaaa", "aaaaaaaa"},
		{"aaaaaaaax", "aaaaaaaay"},
		{"aaaaaaaax", "bbbbbbbby"},
		{"aaaaaaaax", "short", "aaaaaaaay"},
		{"aaaaaaaax", "aaaaaaaay", "aaaaaaaaz"},
		{"aaaaaaaax", "aaaaaaaay", "bbbbbbbbx", "bbbbbbbby"},
		{"aaaaaaaax", "aaaaaaaay", "bbbbbbbbx", "bbbbbbbby", "cccccccc"},
		{"aaaaaaaax", "aaaaaaaay", "aaaaaaaax", "bbbbbbbby", "bbbbbbbb"},
		{"aaaaaaaa" + filled(40, 'x'), "aaaaaaaa" + filled(41, 'x'), "aaaaaaaa", "bbbbbbbb", "aaaaaaa"},
		{"aaaaaaaa" + filled(40, 1), "aaaaaaaa" + filled(40, 2), "", "", "bbbbbbbbaaaaaaaa"},
	}
	r := rand.New(rand.NewSource(282))
	for range 400 {
		all = append(all, crowd(r, r.Intn(60)))
	}
	return all
}

// P28.2: the requests in another order get the same answers in that order: all orders of up to five.
func TestEveryOrder(t *testing.T) {
	for i, row := range rows() {
		if len(row) > 5 {
			continue
		}
		answers := exchange(row...)
		for _, order := range orders(len(row)) {
			checkAnswers(t, fmt.Sprintf("row %d in the order %v", i, order), exchange(picked(row, order)...), picked(answers, order))
		}
	}
}

// P28.2: drawn orders of longer lists, and backwards.
func TestAnyOrder(t *testing.T) {
	r := rand.New(rand.NewSource(283))
	for i, row := range rows() {
		answers := exchange(row...)
		for range 5 {
			order := r.Perm(len(row))
			checkAnswers(t, fmt.Sprintf("row %d in the order %v", i, order), exchange(picked(row, order)...), picked(answers, order))
		}
		slices.Reverse(row)
		slices.Reverse(answers)
		checkAnswers(t, fmt.Sprintf("row %d backwards", i), exchange(row...), answers)
	}
}

// P28.2: what lies at one drop has no say in the answers at another: each drop's requests alone are answered as among all others.
func TestEachDropAlone(t *testing.T) {
	for i, row := range rows() {
		answers := exchange(row...)
		drops := map[string][]int{}
		for place, p := range row {
			at := "none"
			if isRequest([]byte(p)) {
				at = p[:8]
			}
			drops[at] = append(drops[at], place)
		}
		for at, places := range drops {
			checkAnswers(t, fmt.Sprintf("row %d, drop %q", i, at), exchange(picked(row, places)...), picked(answers, places))
		}
	}
}

// P28.2: other drops, and what is no request, put ahead, behind and between change no answer.
func TestDropsBesideOthers(t *testing.T) {
	r := rand.New(rand.NewSource(284))
	for i, row := range rows() {
		answers := exchange(row...)
		var both, want []string
		var from []int
		at := 0
		for at < len(row) || r.Intn(3) > 0 {
			if at < len(row) && r.Intn(2) == 0 {
				both, from = append(both, row[at]), append(from, at)
				at++
				continue
			}
			// A name of this kind is in none of the rows.
			beside := []string{"beside\x00\x00", "beside\x00\x01", "beside\x00\x00" + drawn(r, r.Intn(41)), "beside\x00\x00" + drawn(r, 41), "besides", "beside\x00\x01beside"}
			both, from = append(both, beside[r.Intn(len(beside))]), append(from, -1)
		}
		got := exchange(both...)
		var mine []string
		for place, j := range from {
			if j >= 0 {
				mine, want = append(mine, got[place]), append(want, answers[j])
			}
		}
		checkAnswers(t, fmt.Sprintf("row %d among others", i), mine, want)
	}
}

// P28.2: another message at one drop changes what the other one there hears, and nothing else.
func TestOneMessageChanged(t *testing.T) {
	for i, row := range rows() {
		answers := exchange(row...)
		for place, p := range row {
			if !isRequest([]byte(p)) || len(row) > 12 {
				continue
			}
			other := slices.Clone(row)
			other[place] = p[:8] + "another"
			want := slices.Clone(answers)
			if there := others(lists(row), place); len(there) == 1 {
				want[there[0]] = "\x01another"
			}
			checkAnswers(t, fmt.Sprintf("row %d, another message at %d", i, place), exchange(other...), want)
		}
	}
}

// P28.3: what Exchange answers is an answer: Answer takes it, and it fits into a payload.
func TestAnswersAreAnswers(t *testing.T) {
	for i, row := range rows() {
		for place, p := range drop.Exchange(lists(row)) {
			if a := answer(p); a.Err != api.OK || a.How != int(p[0]) || a.Message != string(p[1:]) {
				t.Errorf("row %d: answer %d, %q: %+v", i, place, p, a)
			}
			c, e := cell.Plain(p)
			back, is, e2 := cell.Open(c)
			if e != api.OK || e2 != api.OK || !is || !bytes.Equal(back, p) || len(p) > api.MaxPayload {
				t.Errorf("row %d: answer %d, %q: errors %d, %d, %q", i, place, p, e, e2, back)
			}
			if _, e := cell.Pad(p); e != api.OK {
				t.Errorf("row %d: answer %d, %q: error %d", i, place, p, e)
			}
		}
	}
}

// P28.3: where Met is told there is just one other place with Met at the same drop, and each of the two has the other's message.
func TestWhoMetHearsTheOther(t *testing.T) {
	met := 0
	for i, row := range rows() {
		answers := drop.Exchange(lists(row))
		for place, p := range answers {
			if p[0] != drop.Met {
				continue
			}
			met++
			var there []int
			for j, q := range answers {
				if j != place && q[0] == drop.Met && row[j][:8] == row[place][:8] {
					there = append(there, j)
				}
			}
			if len(there) != 1 {
				t.Errorf("row %d: place %d met %v", i, place, there)
				continue
			}
			other := there[0]
			if string(p[1:]) != row[other][8:] || string(answers[other][1:]) != row[place][8:] {
				t.Errorf("row %d: places %d and %d heard %q and %q", i, place, other, p[1:], answers[other][1:])
			}
		}
	}
	if met < 1000 {
		t.Errorf("only %d met", met)
	}
}

// P28.3: from Request to Answer: each of two hears what the other said, of each length.
func TestWhatWasLaidIsHeard(t *testing.T) {
	for n := range 41 {
		for m := range 41 {
			one, e := drop.Request([8]byte(some(8, 1)), some(n, 2))
			other, e2 := drop.Request([8]byte(some(8, 1)), some(m, 3))
			if e != api.OK || e2 != api.OK {
				t.Fatalf("errors %d, %d", e, e2)
			}
			answers := drop.Exchange([][]byte{one, other})
			want := [2]heard{{drop.Met, string(some(m, 3)), 0}, {drop.Met, string(some(n, 2)), 0}}
			if got := [2]heard{answer(answers[0]), answer(answers[1])}; got != want {
				t.Errorf("%d and %d bytes: %+v; want %+v", n, m, got, want)
			}
		}
	}
}
