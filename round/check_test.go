package round_test

import (
	"bytes"
	"fmt"
	"math"
	"math/rand"
	"slices"
	"testing"

	"churn/api"
	"churn/round"
)

// A knob is one number of a configuration, with its least and its greatest.
type knob struct {
	name    string
	low, up int
	set     func(c *api.Config, n int)
}

// knobs: all numbers of a configuration. Num's greatest is that of config's Den.
func knobs() []knob {
	return []knob{
		{"Left", 1, 8, func(c *api.Config, n int) { c.Left = n }},
		{"Span", 1, 8, func(c *api.Config, n int) { c.Span = n }},
		{"Room", 0, 4096, func(c *api.Config, n int) { c.Room = n }},
		{"Num", 0, 3, func(c *api.Config, n int) { c.Num = n }},
		{"Den", 2, 1000, func(c *api.Config, n int) { c.Den = n }},
		{"Noise", 0, 16, func(c *api.Config, n int) { c.Noise = n }},
		{"Chunks", 1, 64, func(c *api.Config, n int) { c.Chunks = n }},
		{"Workers", 1, 64, func(c *api.Config, n int) { c.Workers = n }},
		{"Cap", 0, 1024, func(c *api.Config, n int) { c.Cap = n }},
		{"Shards", 1, 64, func(c *api.Config, n int) { c.Shards = n }},
	}
}

// about: numbers at, below and above both ends, and at both ends of an int.
func (k knob) about() []int {
	return []int{math.MinInt, math.MinInt + 1, -1 << 32, -k.up, k.low - 2, k.low - 1, k.low, k.low + 1, (k.low + k.up) / 2, k.up - 1, k.up, k.up + 1, k.up + 2, k.up + 256, 1<<32 + k.low, math.MaxInt - 1, math.MaxInt}
}

func (k knob) takes(n int) bool { return k.low <= n && n <= k.up }

// checks: Check's answer, held against what is wanted and against the words; Sift and Mix look at the same configuration.
func checks(t *testing.T, what string, c api.Config, s api.State, want api.Errno) {
	t.Helper()
	if got, words := round.Check(c, s), wordsOfCheck(c, s); got != want || words != want {
		t.Errorf("%s: Check = %d, by the words %d; want %d", what, got, words, want)
	}
}

// P21.1: the chapter's examples of Check.
func TestExamplesOfCheck(t *testing.T) {
	checks(t, "the zero Config", api.Config{}, api.State{}, api.ErrConfig)
	checks(t, "a right one with the zero State", config(1), api.State{}, api.OK)
	checks(t, "Next -1", config(1), api.State{Next: -1}, api.ErrConfig)
	above := api.Window{Newest: 4, Epochs: []api.Epoch{{Number: 5, Tags: [][16]byte{{1}}}}}
	checks(t, "a window that holds an epoch above Newest", config(1), api.State{Window: above}, api.ErrConfig)
}

// P21.1: each number of a configuration at, below and above each of its limits, the others being right: Check, Sift and Mix refuse just the same ones.
func TestEachNumberOfAConfig(t *testing.T) {
	for _, k := range knobs() {
		for _, n := range k.about() {
			c := config(2)
			k.set(&c, n)
			want := api.ErrConfig
			if k.takes(n) {
				want = api.OK
			}
			what := fmt.Sprintf("%s %d", k.name, n)
			checks(t, what, c, api.State{}, want)
			if got := sift(c, api.Window{}, api.Batch{}); !got.same(sifting{Err: want}) {
				t.Errorf("%s: Sift is %v; want error %d", what, got, want)
			}
			raw := packed(header(3, 0, min(max(c.Left, 0), 8)))
			if got := round.Mix(c, api.State{}, raw, make([]byte, 18)); got.Err != want {
				t.Errorf("%s: Mix is %s; want error %d", what, told(got), want)
			}
		}
	}
}

// P21.1: the master key's length.
func TestMaster(t *testing.T) {
	for n := range 70 {
		c := config(1)
		c.Master = some(n, 2110)
		want := api.ErrConfig
		if n == 32 {
			want = api.OK
		}
		checks(t, fmt.Sprint("a master of ", n), c, api.State{}, want)
		if got := sift(c, api.Window{}, api.Batch{}); got.Err != want {
			t.Errorf("a master of %d bytes: Sift is %v", n, got)
		}
	}
	c := config(1)
	c.Master = nil
	checks(t, "no master", c, api.State{}, api.ErrConfig)
	c.Master = make([]byte, 31, 64)
	checks(t, "a master of 31 bytes with room behind it", c, api.State{}, api.ErrConfig)
	c.Master = make([]byte, 32)
	checks(t, "a master of noughts", c, api.State{}, api.OK)
}

// P21.1: Num and Den, each with each about their limits: Num is held against Den, not against a number of its own.
func TestRatio(t *testing.T) {
	numbers := []int{math.MinInt, -1, 0, 1, 2, 3, 499, 500, 999, 1000, 1001, math.MaxInt}
	for _, den := range numbers {
		for _, num := range numbers {
			c := config(3)
			c.Num, c.Den = num, den
			want := api.ErrConfig
			if 1 <= den && den <= 1000 && 0 <= num && num <= den {
				want = api.OK
			}
			checks(t, fmt.Sprintf("%d / %d", num, den), c, api.State{}, want)
		}
	}
}

// P21.1: Next at its limits and beyond.
func TestNext(t *testing.T) {
	for _, n := range []struct {
		next int64
		want api.Errno
	}{
		{math.MinInt64, 210}, {-top, 210}, {-1, 210}, {0, 0}, {1, 0}, {1 << 31, 0}, {top - 1, 0}, {top, 0}, {top + 1, 210}, {math.MaxInt64, 210},
	} {
		checks(t, fmt.Sprint("Next ", n.next), config(1), api.State{Next: n.next}, n.want)
		got := round.Mix(config(1), api.State{Next: n.next}, packed(header(top-1, 0, 1)), make([]byte, 18))
		want := n.want
		if n.next == top {
			want = api.ErrRound // no round comes any more
		}
		if got.Err != want {
			t.Errorf("Next %d: Mix is %s; want error %d", n.next, told(got), want)
		}
	}
}

func epoch(number int64, tags ...byte) api.Epoch {
	e := api.Epoch{Number: number}
	for _, b := range tags {
		e.Tags = append(e.Tags, [16]byte{b})
	}
	return e
}

func win(newest int64, epochs ...api.Epoch) api.Window {
	return api.Window{Newest: newest, Epochs: epochs}
}

// oddWindows: windows with the span and the room that config gives changed to these; and whether they are sound.
func oddWindows() []struct {
	what       string
	w          api.Window
	span, room int
	sound      bool
} {
	return []struct {
		what       string
		w          api.Window
		span, room int
		sound      bool
	}{
		{"sound", win(5, epoch(3, 1, 3), epoch(5, 2)), 3, 3, true},
		{"too old for the span", win(5, epoch(3, 1, 3), epoch(5, 2)), 2, 3, false},
		{"too many for the room", win(5, epoch(3, 1, 3), epoch(5, 2)), 3, 2, false},
		{"one tag and no room", win(5, epoch(5, 2)), 3, 0, false},
		{"no tag and no room", win(5), 3, 0, true},
		{"Newest below 0", win(-1), 3, 9, false},
		{"Newest at the top", win(top), 3, 9, true},
		{"Newest above the top", win(top + 1), 3, 9, false},
		{"an epoch above Newest", win(5, epoch(6, 2)), 3, 9, false},
		{"an epoch below 0", win(1, epoch(-1, 2)), 8, 9, false},
		{"epochs that fall", win(5, epoch(5, 1), epoch(4, 2)), 3, 9, false},
		{"an epoch twice", win(5, epoch(5, 1), epoch(5, 2)), 3, 9, false},
		{"an epoch without tags", win(5, epoch(5)), 3, 9, false},
		{"tags that fall", win(5, epoch(5, 2, 1)), 3, 9, false},
		{"a tag twice in an epoch", win(5, epoch(5, 2, 2)), 3, 9, false},
		{"a tag in two epochs", win(5, epoch(4, 2), epoch(5, 2)), 3, 9, false},
	}
}

// P21.1: states whose window is not sound, for the span and the room of the configuration; Sift takes each of them.
func TestWindowsOfStates(t *testing.T) {
	for _, x := range oddWindows() {
		c := config(1)
		c.Span, c.Room = x.span, x.room
		want := api.ErrConfig
		if x.sound {
			want = api.OK
		}
		s := api.State{Next: 2, Window: x.w}
		checks(t, x.what, c, s, want)
		got := round.Mix(c, s, packed(header(4, 5, 1)), make([]byte, 18))
		if !x.sound {
			checkRefused(t, x.what, s, got, api.ErrConfig, 0)
		}
		if got := sift(c, x.w, api.Batch{Cells: [][]byte{nil}}); !got.same(sifting{Report: api.Report{In: 1, Malformed: 1}}) {
			t.Errorf("%s: Sift is %v", x.what, got)
		}
	}
}

// P21.1: configurations and states without a rule, most of their numbers near a limit, several wrong at one time.
func TestAnyConfig(t *testing.T) {
	r := rand.New(rand.NewSource(2111))
	odd := oddWindows()
	seen := map[api.Errno]int{}
	for i := range 20000 {
		c := config(1 + r.Intn(8))
		for _, k := range knobs() {
			if r.Intn(8) == 0 {
				list := k.about()
				k.set(&c, list[r.Intn(len(list))])
			}
		}
		if r.Intn(20) == 0 {
			c.Master = make([]byte, 30+r.Intn(4))
		}
		s := api.State{Next: []int64{-1, 0, 0, 1, 5, 7, top, top + 1}[r.Intn(8)]}
		if r.Intn(2) == 0 {
			s.Window = odd[r.Intn(len(odd))].w
		}
		want := wordsOfCheck(c, s)
		checks(t, fmt.Sprintf("number %d: %+v %+v", i, c, s), c, s, want)
		seen[want]++
	}
	if seen[0] < 1000 || seen[210] < 1000 {
		t.Errorf("the drawn ones are too much alike: %v", seen)
	}
}

// P21.1: Workers, Cap and Shards count for nothing in a round's outcome, but that they are looked at.
func TestHandsDoNotMatter(t *testing.T) {
	c := config(2)
	raw := packed(header(1, 4, 2), append(sentAll(c, 4, 1, 5), sent(c, 4, 2))...)
	p := some(90, 2112)
	want := mixes(t, "two workers", c, api.State{}, raw, p, api.OK)
	for _, hands := range [][3]int{{1, 0, 1}, {64, 1024, 64}, {64, 0, 1}, {1, 1024, 64}, {7, 3, 5}} {
		c.Workers, c.Cap, c.Shards = hands[0], hands[1], hands[2]
		if got := round.Mix(c, api.State{}, raw, p); !sameOutcome(got, want) {
			t.Errorf("workers, capacity and shards %v: %s; want %s", hands, told(got), told(want))
		}
		if got := sift(c, api.Window{}, read(raw)); got.Report.Replays != 1 || len(got.Fresh) != 5 {
			t.Errorf("workers, capacity and shards %v: Sift is %v", hands, got)
		}
	}
}

// P21.1: the errors' numbers, as the document tells them.
func TestNumbersOfErrors(t *testing.T) {
	c, p := quiet(1), make([]byte, 40)
	a, b := sent(c, 3, 1), sent(c, 3, 2)
	full := c
	full.Room = 1
	loudly := config(1)
	loudly.Noise = 1
	crowd := packed(header(4, 3, 1), sentAll(loudly, 3, 1, 256)...)
	for _, x := range []struct {
		what string
		got  api.Errno
		want int
	}{
		{"Check", round.Check(api.Config{}, api.State{}), 210},
		{"Sift", sift(api.Config{}, api.Window{}, api.Batch{}).Err, 210},
		{"Sift without a key", sift(c, api.Window{}, api.Batch{Header: header(0, -1, 0)}).Err, 2},
		{"no configuration", round.Mix(api.Config{}, api.State{}, nil, nil).Err, 210},
		{"no bytes", round.Mix(c, api.State{}, nil, p).Err, 67},
		{"another hop", round.Mix(c, api.State{}, packed(header(4, 3, 2), a), p).Err, 212},
		{"a round that is over", round.Mix(c, api.State{Next: 5}, packed(header(4, 3, 1), a), p).Err, 211},
		{"an epoch far ahead", round.Mix(c, api.State{}, packed(header(4, 1025, 1), a), p).Err, 161},
		{"no tape", round.Mix(c, api.State{}, packed(header(4, 3, 1), a), nil).Err, 3},
		{"too many", round.Mix(loudly, api.State{}, crowd, loud(9000, 2113)).Err, 213},
		{"a short tape", round.Mix(c, api.State{}, packed(header(4, 3, 1), a, b), p[:18]).Err, 3},
		{"a full window", round.Mix(full, api.State{}, packed(header(4, 3, 1), a, b), p).Err, 160},
		{"nothing wrong", round.Mix(c, api.State{}, packed(header(4, 3, 1), a, b), p).Err, 0},
	} {
		if int(x.got) != x.want {
			t.Errorf("%s: error %d; want %d", x.what, x.got, x.want)
		}
	}
}

// Rule 4: nil and empty are one and the same in what is handed in.
func TestNilAndEmpty(t *testing.T) {
	c := quiet(1)
	none := api.State{Window: api.Window{Epochs: []api.Epoch{}}}
	checks(t, "an empty list of epochs", c, none, api.OK)
	raw := packed(header(1, 0, 1))
	a, b := round.Mix(c, api.State{}, raw, make([]byte, 18)), round.Mix(c, none, raw, make([]byte, 18))
	if a.Err != api.OK || !sameOutcome(a, b) {
		t.Errorf("the zero State: %s; one with an empty list: %s", told(a), told(b))
	}
	checkRefused(t, "no bytes, nil", none, round.Mix(c, none, nil, nil), api.ErrShort, 0)
	checkRefused(t, "no bytes, empty", none, round.Mix(c, none, []byte{}, []byte{}), api.ErrShort, 0)
	checkRefused(t, "no tape, nil", none, round.Mix(c, none, raw, nil), api.ErrTape, 0)
	checkRefused(t, "no tape, empty", none, round.Mix(c, none, raw, []byte{}), api.ErrTape, 0)
	for _, cells := range [][][]byte{nil, {}} {
		if got := sift(c, none.Window, api.Batch{Cells: cells}); !got.same(sifting{}) {
			t.Errorf("Sift of the cells %v is %v", cells, got)
		}
	}
	for _, x := range [][]byte{nil, {}} {
		if got := sift(c, none.Window, api.Batch{Cells: slices.Repeat([][]byte{x}, 3)}); !got.same(sifting{Report: api.Report{In: 3, Malformed: 3}}) {
			t.Errorf("Sift of three cells of no bytes is %v", got)
		}
	}
	odd := api.State{Window: win(3, api.Epoch{Number: 3, Tags: [][16]byte{}}, api.Epoch{Number: 4})}
	if got := round.Mix(c, odd, raw, nil); got.Err != api.ErrConfig || !sameState(got.State, odd) {
		t.Errorf("a state that isn't right: %s", told(got))
	}
	if got := round.Mix(api.Config{}, api.State{}, bytes.Repeat(raw, 2), raw); !sameOutcome(got, api.Outcome{Err: api.ErrConfig}) {
		t.Errorf("nothing: %s", told(got))
	}
}
