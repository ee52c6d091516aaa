package window_test

import (
	"fmt"
	"math"
	"math/big"
	"math/rand"
	"slices"
	"sort"
	"strings"
	"testing"

	"churn/api"
	"churn/window"
)

const top = int64(1) << 62 // the greatest epoch

// tag: sixteen bytes of one letter.
func tag(c byte) (t [16]byte) {
	for i := range t {
		t[i] = c
	}
	return t
}

// tags: a list of such tags, one for each letter.
func tags(letters string) (list [][16]byte) {
	for i := range len(letters) {
		list = append(list, tag(letters[i]))
	}
	return list
}

// numbered: n tags from number first on; they rise with their numbers, and differ in two bytes in the middle alone.
func numbered(first, n int) (list [][16]byte) {
	for i := range n {
		t := tag('=')
		t[7], t[8] = byte((first+i)>>8), byte(first+i)
		list = append(list, t)
	}
	return list
}

func epoch(number int64, letters string) api.Epoch {
	return api.Epoch{Number: number, Tags: tags(letters)}
}

func win(newest int64, epochs ...api.Epoch) api.Window {
	return api.Window{Newest: newest, Epochs: epochs}
}

// chapters: the window W of the chapter's examples.
func chapters() api.Window { return win(5, epoch(4, "ac"), epoch(5, "b")) }

// cloned: the same window in other memory.
func cloned(w api.Window) api.Window {
	out := api.Window{Newest: w.Newest}
	for _, e := range w.Epochs {
		out.Epochs = append(out.Epochs, api.Epoch{Number: e.Number, Tags: slices.Clone(e.Tags)})
	}
	return out
}

func sameEpoch(a, b api.Epoch) bool { return a.Number == b.Number && slices.Equal(a.Tags, b.Tags) }

func sameWindow(a, b api.Window) bool {
	return a.Newest == b.Newest && slices.EqualFunc(a.Epochs, b.Epochs, sameEpoch)
}

// toldTag: one letter for sixteen of them, else all bytes.
func toldTag(t [16]byte) string {
	if t == tag(t[0]) && t[0] >= 'a' && t[0] <= 'z' {
		return string(t[:1])
	}
	return fmt.Sprintf("%x", t)
}

func told(w api.Window) string {
	s := fmt.Sprintf("newest %d", w.Newest)
	for _, e := range w.Epochs {
		s += fmt.Sprintf("; %d:", e.Number)
		for _, t := range e.Tags {
			s += " " + toldTag(t)
		}
	}
	if len(s) > 600 {
		return fmt.Sprintf("%s .. (%d epochs, %d bytes)", s[:600], len(w.Epochs), len(s))
	}
	return s
}

// An answer is what Open and Add answer.
type answer struct {
	W   api.Window
	Err api.Errno
}

func (a answer) same(b answer) bool { return sameWindow(a.W, b.W) && a.Err == b.Err }

func (a answer) String() string { return fmt.Sprintf("(%s, error %d)", told(a.W), a.Err) }

func open(w api.Window, epoch int64, span int) answer {
	out, e := window.Open(w, epoch, span)
	return answer{out, e}
}

func add(w api.Window, epoch int64, list [][16]byte, room int) answer {
	out, e := window.Add(w, epoch, list, room)
	return answer{out, e}
}

// refused: what stands beside an error.
func refused(e api.Errno) answer { return answer{Err: e} }

func whole(n int64) *big.Int { return big.NewInt(n) }

func plus(n, m int64) *big.Int { return new(big.Int).Add(whole(n), whole(m)) }

// within: whether a <= n <= b, in numbers without bounds.
func within(a, n, b *big.Int) bool { return a.Cmp(n) <= 0 && n.Cmp(b) <= 0 }

// The words 'a window is right', each by itself and for every two things that it speaks of.

func newestRight(w api.Window) bool { return within(whole(0), whole(w.Newest), whole(top)) }

func numbersRight(w api.Window, span int) bool {
	for i, e := range w.Epochs {
		n := whole(e.Number)
		if n.Sign() < 0 || n.Cmp(whole(w.Newest)) > 0 || n.Cmp(plus(w.Newest, -int64(span))) <= 0 {
			return false
		}
		for _, f := range w.Epochs[:i] {
			if n.Cmp(whole(f.Number)) <= 0 {
				return false
			}
		}
	}
	return true
}

func tagsRight(w api.Window) bool {
	for _, e := range w.Epochs {
		if len(e.Tags) < 1 {
			return false
		}
		for j, later := range e.Tags {
			for _, earlier := range e.Tags[:j] {
				if string(earlier[:]) >= string(later[:]) {
					return false
				}
			}
		}
	}
	return true
}

func apartRight(w api.Window) bool {
	for i, e := range w.Epochs {
		for _, t := range e.Tags {
			for _, f := range w.Epochs[:i] {
				if slices.Contains(f.Tags, t) {
					return false
				}
			}
		}
	}
	return true
}

func definedLen(w api.Window) int {
	var all [][16]byte
	for _, e := range w.Epochs {
		all = append(all, e.Tags...)
	}
	return len(all)
}

func definedCheck(w api.Window, span, room int) api.Errno {
	fits := 1 <= span && span <= 8 && 0 <= room && room <= 4096
	if fits && newestRight(w) && numbersRight(w, span) && tagsRight(w) && apartRight(w) && definedLen(w) <= room {
		return 0
	}
	return 2
}

func definedOpen(w api.Window, epoch int64, span int) answer {
	if span < 1 || span > 8 || epoch < 0 || epoch > top {
		return refused(2)
	}
	at := whole(epoch)
	if at.Cmp(plus(w.Newest, -int64(span))) <= 0 || at.Cmp(plus(w.Newest, 1024)) > 0 {
		return refused(161)
	}
	out := api.Window{Newest: w.Newest}
	if epoch > w.Newest {
		out.Newest = epoch
	}
	kept := func(e api.Epoch) bool { return whole(e.Number).Cmp(plus(out.Newest, -int64(span))) > 0 }
	for _, e := range cloned(w).Epochs {
		if kept(e) {
			out.Epochs = append(out.Epochs, e)
		}
	}
	return answer{W: out}
}

// holdings: which tags a window holds, each once, in order, as texts.
func holdings(w api.Window) (out []string) {
	for _, e := range w.Epochs {
		out = append(out, texts(e.Tags)...)
	}
	sort.Strings(out)
	return slices.Compact(out)
}

func texts(list [][16]byte) (out []string) {
	for _, t := range list {
		out = append(out, string(t[:]))
	}
	return out
}

// A seen is a tag of a window, with the number of its epoch.
type seen struct {
	number int64
	text   string
}

// gathered: the window that holds these.
func gathered(newest int64, all []seen) api.Window {
	sort.Slice(all, func(i, j int) bool {
		if all[i].number != all[j].number {
			return all[i].number < all[j].number
		}
		return all[i].text < all[j].text
	})
	out := api.Window{Newest: newest}
	for i, s := range all {
		if i == 0 || all[i-1].number != s.number {
			out.Epochs = append(out.Epochs, api.Epoch{Number: s.number})
		}
		last := &out.Epochs[len(out.Epochs)-1]
		last.Tags = append(last.Tags, [16]byte([]byte(s.text)))
	}
	return out
}

func definedAdd(w api.Window, epoch int64, list [][16]byte, room int) answer {
	if room < 0 || room > 4096 || definedCheck(w, 8, 4096) != 0 {
		return refused(2)
	}
	if epoch < 0 || epoch > w.Newest || whole(epoch).Cmp(plus(w.Newest, -8)) <= 0 {
		return refused(161)
	}
	var all []seen
	for _, e := range w.Epochs {
		for _, text := range texts(e.Tags) {
			all = append(all, seen{e.Number, text})
		}
	}
	for _, text := range texts(list) {
		if !slices.ContainsFunc(all, func(s seen) bool { return s.text == text }) {
			all = append(all, seen{epoch, text})
		}
	}
	if len(all) > room {
		return refused(160)
	}
	return answer{W: gathered(w.Newest, all)}
}

func checkCheck(t *testing.T, w api.Window, span, room int) api.Errno {
	t.Helper()
	got, want := window.Check(w, span, room), definedCheck(w, span, room)
	if got != want {
		t.Errorf("Check(%s, %d, %d) = %d; want %d", told(w), span, room, got, want)
	}
	return got
}

func checkOpen(t *testing.T, w api.Window, epoch int64, span int) answer {
	t.Helper()
	got, want := open(w, epoch, span), definedOpen(w, epoch, span)
	if !got.same(want) {
		t.Errorf("Open(%s, %d, %d) = %v; want %v", told(w), epoch, span, got, want)
	}
	return got
}

func checkAdd(t *testing.T, w api.Window, epoch int64, list [][16]byte, room int) answer {
	t.Helper()
	got, want := add(w, epoch, list, room), definedAdd(w, epoch, list, room)
	if !got.same(want) {
		t.Errorf("Add(%s, %d, %s, %d) = %v; want %v", told(w), epoch, told(win(0, api.Epoch{Tags: list})), room, got, want)
	}
	return got
}

// farInts: numbers that are no span and no room, those among them that would be one if they were cut to fewer bits or their sign left out.
var farInts = []int{-1, -2, -8, -9, -4096, -4097, -1 << 31, -1 << 32, 1 - 1<<32, math.MinInt + 1, math.MinInt,
	4097, 4098, 1 << 16, 1<<16 + 1, 1<<31 - 1, 1 << 31, 1 << 32, 1<<32 + 1, 1<<32 + 8, 1<<40 + 4, 1<<62 + 2, math.MaxInt - 1, math.MaxInt}

// ends: numbers of 64 bits near those by which windows and epochs are bounded, and at the ends of their type.
func ends() (out []int64) {
	for _, n := range []int64{math.MinInt64, math.MinInt64 + 1024, -1 << 62, -1024, 0, 1024, 1 << 31, 1 << 32, 1 << 53, top - 1024, top, top + 1024, math.MaxInt64 - 1024, math.MaxInt64} {
		for _, d := range []int64{-9, -8, -7, -2, -1, 0, 1, 2, 7, 8, 9} {
			if within(whole(math.MinInt64), plus(n, d), whole(math.MaxInt64)) {
				out = append(out, n+d)
			}
		}
	}
	slices.Sort(out)
	return slices.Compact(out)
}

// someWindow: a window without a rule, right or not, with letters of few kinds and numbers near its newest.
func someWindow(r *rand.Rand) api.Window {
	w := api.Window{Newest: r.Int63n(14) - 2}
	for range r.Intn(4) {
		e := api.Epoch{Number: w.Newest - r.Int63n(11) + 2}
		for range r.Intn(4) {
			e.Tags = append(e.Tags, tag(byte('a'+r.Intn(6))))
		}
		w.Epochs = append(w.Epochs, e)
	}
	return w
}

// someRight: a window that is right for the span and every room from its length on.
func someRight(r *rand.Rand, span int) api.Window {
	newest := r.Int63n(14)
	letters := r.Perm(12)
	var all []seen
	for number := max(0, newest-int64(span)+1); number <= newest; number++ {
		for range r.Intn(3) * r.Intn(2) {
			if len(letters) > 0 {
				all = append(all, seen{number, strings.Repeat(string(rune('a'+letters[0])), 16)})
				letters = letters[1:]
			}
		}
	}
	return gathered(newest, all)
}

// someTags: a list of letters, some of them more than once.
func someTags(r *rand.Rand, most int) (list [][16]byte) {
	for range r.Intn(most + 1) {
		list = append(list, tag(byte('a'+r.Intn(14))))
	}
	return list
}
