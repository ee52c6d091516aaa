package drop_test

import (
	"fmt"
	"runtime/metrics"
	"slices"
	"sync"
	"testing"

	"churn/api"
	"churn/drop"
)

// rimmed: the list in the midst of more memory, and that memory.
func rimmed[T any](list []T, around T) (inside, all []T) {
	all = slices.Concat(slices.Repeat([]T{around}, 100), list, slices.Repeat([]T{around}, 100))
	return all[100 : 100+len(list)], all
}

// over: writes over a list and its room.
func over[T any](list []T, x T) {
	list = list[:cap(list)]
	for i := range list {
		list[i] = x
	}
}

// A handed is lists that are handed in, each in the midst of more memory, and that memory.
type handed struct {
	lists [][]byte
	outer [][]byte
	inner [][]byte
}

func handIn(row []string) *handed {
	h := &handed{}
	h.lists, h.outer = rimmed(lists(row), []byte("aaaaaaaaround"))
	for i, p := range h.lists {
		inside, all := rimmed(p, 'a')
		h.lists[i], h.inner = inside, append(h.inner, all)
	}
	return h
}

// picture: all of that memory, in other memory.
func (h *handed) picture() string { return fmt.Sprintf("%x %x", h.outer, h.inner) }

func (h *handed) scribble() {
	for _, p := range h.inner {
		over(p, 0xAB)
	}
	over(h.outer, []byte("scribbled"))
}

// An ask is one call: Request takes the first list's first 8 bytes and the second list, Answer the first list.
type ask struct {
	name string
	row  []string
	call func(lists [][]byte) [][]byte
}

func askRequest(lists [][]byte) [][]byte {
	p, e := drop.Request([8]byte(lists[0]), lists[1])
	return [][]byte{{byte(e)}, p}
}

func askAnswer(lists [][]byte) [][]byte {
	how, message, e := drop.Answer(lists[0])
	return [][]byte{{byte(how), byte(e >> 8), byte(e)}, message}
}

// asks: calls that are taken and calls that are refused.
func asks() []ask {
	all := []ask{
		{"Request", []string{"room0001", "hi"}, askRequest},
		{"Request without a message", []string{"room0001", ""}, askRequest},
		{"Request of all that fits", []string{"room0001", filled(40, 'x')}, askRequest},
		{"Request refused", []string{"room0001", filled(41, 'x')}, askRequest},
		{"Answer met", []string{"\x01hi"}, askAnswer},
		{"Answer met without a message", []string{"\x01"}, askAnswer},
		{"Answer of all that fits", []string{"\x01" + filled(40, 'x')}, askAnswer},
		{"Answer alone", []string{"\x00"}, askAnswer},
		{"Answer crowded", []string{"\x02"}, askAnswer},
		{"Answer broken", []string{"\x03"}, askAnswer},
		{"Answer refused", []string{"\x04"}, askAnswer},
		{"Answer of nothing", []string{""}, askAnswer},
		{"Answer of a message alone", []string{"\x00hi"}, askAnswer},
	}
	for i, row := range rows()[:60] {
		all = append(all, ask{fmt.Sprintf("Exchange of row %d", i), row, drop.Exchange})
	}
	return all
}

// Rule 5: what is handed in stays as it is, with what lies about it and in its spare room.
func TestWhatIsHandedInStays(t *testing.T) {
	for _, a := range asks() {
		h := handIn(a.row)
		before := h.picture()
		got := texts(a.call(h.lists))
		if h.picture() != before {
			t.Errorf("%s: a list has changed", a.name)
		}
		checkAnswers(t, a.name+", from pieces", got, texts(a.call(lists(a.row))))
	}
}

// Rule 5: an answer is the caller's own: written over, room and all, and appended to, it changes neither what was handed in nor another answer; and what was handed in isn't kept.
func TestAnswersAreNew(t *testing.T) {
	for _, a := range asks() {
		want := texts(a.call(lists(a.row)))
		h := handIn(a.row)
		before := h.picture()
		first, second := a.call(h.lists), a.call(h.lists)
		for _, p := range first {
			_ = append(p, some(99, 1)...)
			over(p, 0xCD)
		}
		_ = append(first, []byte("more"))
		over(first, []byte("other"))
		if h.picture() != before {
			t.Errorf("%s: an answer written over shows in what was handed in", a.name)
		}
		checkAnswers(t, a.name+", another answer written over", texts(second), want)
		h.scribble()
		checkAnswers(t, a.name+", what was handed in written over", texts(second), want)
		checkAnswers(t, a.name+", asked once more", texts(a.call(lists(a.row))), want)
	}
}

// Rule 5: no two lists of one answer share memory: each written over, room and all, and appended to, leaves the others as they are.
func TestAnswersApart(t *testing.T) {
	for i, row := range append(rows()[:60], many(9, "aaaaaaaax"), many(9, "short"), []string{"aaaaaaaa", "bbbbbbbb", "cccccccc"}) {
		for place := range row {
			answers := drop.Exchange(lists(row))
			want := texts(answers)
			_ = append(answers[place], some(99, 1)...)
			over(answers[place], 0xCD)
			answers[place] = []byte(want[place])
			checkAnswers(t, fmt.Sprintf("row %d, answer %d written over", i, place), texts(answers), want)
		}
	}
}

// Rule 5: requests that lie in one another's memory, and one list at several places.
func TestListsInOneMemory(t *testing.T) {
	all := []byte("aaaaaaaaaaaaaaaabbbbbbbbbbbb")
	before := string(all)
	var in [][]byte
	var row []string
	for i := range 20 {
		for _, n := range []int{0, 7, 8, 9} {
			if i+n <= len(all) {
				in, row = append(in, all[i:i+n]), append(row, before[i:i+n])
			}
		}
	}
	got := texts(drop.Exchange(in))
	checkAnswers(t, "pieces of one list", got, definedExchange(lists(row)))
	if string(all) != before {
		t.Error("the list has changed")
	}
}

// Rule 4: nil and empty are one and the same.
func TestNilIsEmpty(t *testing.T) {
	for _, empty := range [][]byte{nil, {}, make([]byte, 0, 9), []byte("aaaaaaaa")[:0]} {
		if p, e := drop.Request([8]byte([]byte("room0001")), empty); string(p) != "room0001" || e != api.OK {
			t.Errorf("%q, error %d", p, e)
		}
		if a := answer(empty); a != (heard{Err: api.ErrAnswer}) {
			t.Errorf("%+v", a)
		}
		checkAnswers(t, "an empty list", texts(drop.Exchange([][]byte{empty, []byte("aaaaaaaa"), empty})), []string{"\x03", "\x00", "\x03"})
	}
}

// Rule 3: beside an error nothing else is answered.
func TestNothingBesideAnError(t *testing.T) {
	for n := range 100 {
		if p, e := drop.Request([8]byte{}, make([]byte, n)); e != api.OK && len(p) != 0 {
			t.Errorf("Request of %d bytes: %q beside error %d", n, p, e)
		}
		for b := range 256 {
			p := some(n+1, 1)
			p[0] = byte(b)
			if how, message, e := drop.Answer(p); e != api.OK && (how != 0 || len(message) != 0) {
				t.Errorf("Answer of %d bytes from %d on: %d, %q beside error %d", n+1, b, how, message, e)
			}
		}
	}
}

// Rule 6: asked in another order, with other calls between, each call answers the same: who was at a drop is known to nobody afterwards.
func TestNothingIsKept(t *testing.T) {
	all := asks()
	var wants [][]string
	for _, a := range all {
		wants = append(wants, texts(a.call(lists(a.row))))
	}
	for i, a := range slices.Backward(all) {
		checkAnswers(t, a.name, texts(a.call(lists(a.row))), wants[i])
	}
	for range 3 {
		checkAnswers(t, "alone, call by call", exchange("aaaaaaaax"), []string{"\x00"})
	}
}

// Rule 6: many calls at one time, over the same lists, answer as one alone does.
func TestManyAtOneTime(t *testing.T) {
	var done sync.WaitGroup
	for _, a := range asks() {
		in := lists(a.row)
		want := texts(a.call(in))
		for range 4 {
			done.Go(func() { checkAnswers(t, a.name, texts(a.call(in)), want) })
		}
	}
	done.Wait()
}

// begun: how many goroutines the program has begun so far.
func begun() int {
	sample := []metrics.Sample{{Name: "/sched/goroutines-created:goroutines"}}
	metrics.Read(sample)
	if sample[0].Value.Kind() != metrics.KindUint64 {
		return -1
	}
	return int(sample[0].Value.Uint64())
}

// Rule 7: no call begins a goroutine. The runtime begins some of its own now and then, so one count of several must be 0.
func TestNoGoroutines(t *testing.T) {
	if begun() < 0 {
		t.Skip("the runtime doesn't tell how many goroutines were begun")
	}
	for _, a := range asks() {
		in := lists(a.row)
		var counts []int
		for range 10 {
			before := begun()
			a.call(in)
			counts = append(counts, begun()-before)
		}
		if !slices.Contains(counts, 0) {
			t.Errorf("%s: %v goroutines begun", a.name, counts)
		}
	}
}
