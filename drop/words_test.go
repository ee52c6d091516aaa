package drop_test

import (
	"bytes"
	"math/rand"
	"slices"
	"testing"

	"churn/api"
	"churn/drop"
)

// The words of this chapter once more, with plain numbers, and counted place by place.

// A heard is what Answer answers.
type heard struct {
	How     int
	Message string
	Err     api.Errno
}

func answer(payload []byte) heard {
	how, message, e := drop.Answer(payload)
	return heard{how, string(message), e}
}

// definedAnswer: one byte that tells how it came about, and 0 to 40 bytes behind a 1 alone.
func definedAnswer(payload []byte) heard {
	n := len(payload)
	if n > 1 && n <= 41 && payload[0] == 1 || n == 1 && payload[0] <= 3 {
		return heard{int(payload[0]), string(payload[1:]), 0}
	}
	return heard{Err: 280}
}

// A laid is what Request answers.
type laid struct {
	Payload string
	Err     api.Errno
}

func request(name, message string) laid {
	p, e := drop.Request([8]byte([]byte(name)), []byte(message))
	return laid{string(p), e}
}

func definedRequest(name, message string) laid {
	if len(message) > 40 {
		return laid{Err: 1}
	}
	return laid{name + message, 0}
}

func isRequest(p []byte) bool { return len(p) >= 8 && len(p) <= 48 }

// others: the places beside this one whose request lies at the same drop.
func others(requests [][]byte, i int) []int {
	var places []int
	for j, r := range requests {
		if j != i && isRequest(r) && string(r[:8]) == string(requests[i][:8]) {
			places = append(places, j)
		}
	}
	return places
}

// definedExchange: for each place all other places are looked at.
func definedExchange(requests [][]byte) []string {
	var answers []string
	for i, r := range requests {
		if !isRequest(r) {
			answers = append(answers, "\x03")
			continue
		}
		switch there := others(requests, i); len(there) {
		case 0:
			answers = append(answers, "\x00")
		case 1:
			answers = append(answers, "\x01"+string(requests[there[0]][8:]))
		default:
			answers = append(answers, "\x02")
		}
	}
	return answers
}

// texts and lists: the same lists as texts and as bytes, each in memory of its own.
func texts(lists [][]byte) []string {
	all := make([]string, len(lists))
	for i, p := range lists {
		all[i] = string(p)
	}
	return all
}

func lists(texts []string) [][]byte {
	all := make([][]byte, len(texts))
	for i, s := range texts {
		all[i] = []byte(s)
	}
	return all
}

func exchange(requests ...string) []string { return texts(drop.Exchange(lists(requests))) }

// checkAnswers: these are the answers, place by place; of many only the first that is another is told.
func checkAnswers(t *testing.T, what string, got, want []string) {
	t.Helper()
	if len(got) != len(want) {
		t.Errorf("%s: %d answers; want %d", what, len(got), len(want))
		return
	}
	for i := range got {
		if got[i] != want[i] {
			t.Errorf("%s: answer %d of %d is %q; want %q", what, i, len(got), got[i], want[i])
			return
		}
	}
}

// checkExchange: the answers are those of the words.
func checkExchange(t *testing.T, what string, requests ...string) {
	t.Helper()
	checkAnswers(t, what, exchange(requests...), definedExchange(lists(requests)))
}

func checkAnswer(t *testing.T, payload string, want heard) {
	t.Helper()
	if got := answer([]byte(payload)); got != want {
		t.Errorf("Answer of %d bytes %.50q: %+v; want %+v", len(payload), payload, got, want)
	}
	if got := definedAnswer([]byte(payload)); got != want {
		t.Errorf("by the words, of %d bytes %.50q: %+v; want %+v", len(payload), payload, got, want)
	}
}

func checkRequest(t *testing.T, name, message string, want laid) {
	t.Helper()
	if got := request(name, message); got != want {
		t.Errorf("Request(%q, %d bytes %.50q): %.60q, error %d; want %.60q, error %d", name, len(message), message, got.Payload, got.Err, want.Payload, want.Err)
	}
	if got := definedRequest(name, message); got != want {
		t.Errorf("by the words, Request(%q, %d bytes): %+v", name, len(message), got)
	}
}

// some: n bytes of which none is 0, other ones for another seed.
func some(n int, seed byte) []byte {
	p := make([]byte, n)
	for i := range p {
		p[i] = byte((i*31+int(seed)*37)%255) + 1
	}
	return p
}

// drawn: n bytes without a rule.
func drawn(r *rand.Rand, n int) string {
	p := make([]byte, n)
	r.Read(p)
	return string(p)
}

// crowd: n drawn lists at few drops, some of which are no requests: too short, too long, or nothing.
func crowd(r *rand.Rand, n int) []string {
	var names []string
	for range 1 + n/2 {
		names = append(names, drawn(r, 8))
	}
	var all []string
	for range n {
		name := names[r.Intn(len(names))]
		switch r.Intn(8) {
		case 0:
			all = append(all, name[:r.Intn(8)])
		case 1:
			all = append(all, name+drawn(r, 41+r.Intn(3)))
		case 2:
			all = append(all, name)
		case 3:
			if len(all) > 0 {
				name = all[r.Intn(len(all))]
			}
			all = append(all, name)
		default:
			all = append(all, name+drawn(r, r.Intn(41)))
		}
	}
	return all
}

// picked: the things at these places, in their order.
func picked(things []string, places []int) []string {
	var all []string
	for _, i := range places {
		all = append(all, things[i])
	}
	return all
}

// orders: each order of n places.
func orders(n int) [][]int {
	if n == 0 {
		return [][]int{nil}
	}
	var all [][]int
	for _, order := range orders(n - 1) {
		for i := range n {
			all = append(all, slices.Insert(slices.Clone(order), i, n-1))
		}
	}
	return all
}

// many: n of the same text.
func many(n int, s string) []string { return slices.Repeat([]string{s}, n) }

// filled: n bytes of one kind.
func filled(n int, b byte) string { return string(bytes.Repeat([]byte{b}, n)) }
