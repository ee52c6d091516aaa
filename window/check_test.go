package window_test

import (
	"math"
	"math/rand"
	"slices"
	"testing"

	"churn/api"
	"churn/window"
)

// P16.1: spans and rooms at their limits and beyond, each beside one that is good, for windows that are right for the good ones.
func TestCheckSpanAndRoom(t *testing.T) {
	empty := api.Window{}
	for _, span := range slices.Concat([]int{0, 1, 2, 7, 8, 9, 10, 16, 64}, farInts) {
		want := api.ErrArg
		if span >= 1 && span <= 8 {
			want = api.OK
		}
		for _, room := range []int{0, 1, 4096} {
			if got := window.Check(empty, span, room); got != want {
				t.Errorf("Check(the zero window, %d, %d) = %d; want %d", span, room, got, want)
			}
			checkCheck(t, win(9, epoch(9, "a")), span, room)
			checkCheck(t, chapters(), span, room)
		}
	}
	for _, room := range slices.Concat([]int{0, 1, 3, 4095, 4096}, farInts) {
		want := api.ErrArg
		if room >= 0 && room <= 4096 {
			want = api.OK
		}
		for span := 1; span <= 8; span++ {
			if got := window.Check(empty, span, room); got != want {
				t.Errorf("Check(the zero window, %d, %d) = %d; want %d", span, room, got, want)
			}
			checkCheck(t, chapters(), span, room)
		}
	}
	for _, span := range farInts {
		for _, room := range farInts {
			if got := window.Check(empty, span, room); got != api.ErrArg {
				t.Errorf("Check(the zero window, %d, %d) = %d", span, room, got)
			}
		}
	}
}

// P16.1: windows that break one of the words 'a window is right', and no other; beside each one a window that is right and as near as can be.
func TestCheckEachWord(t *testing.T) {
	two := func(n, m int64) []api.Epoch { return []api.Epoch{epoch(n, "a"), epoch(m, "b")} }
	for _, c := range []struct {
		what       string
		good, bad  api.Window
		span, room int
	}{
		{"Newest below 0", win(0), win(-1), 8, 9},
		{"Newest far below 0", win(0), win(math.MinInt64), 8, 9},
		{"Newest above 2^62", win(top), win(top + 1), 8, 9},
		{"Newest far above 2^62", win(top), win(math.MaxInt64), 8, 9},
		{"Newest above 2^62, with an epoch", win(top, epoch(top, "a")), win(top+1, epoch(top, "a")), 8, 9},
		{"a Number below 0", win(3, epoch(0, "a")), win(3, epoch(-1, "a")), 8, 9},
		{"a Number below 0 ahead of another", win(3, two(0, 1)...), win(3, two(-1, 1)...), 8, 9},
		{"a Number far below 0", win(3, epoch(0, "a")), win(3, epoch(math.MinInt64, "a")), 8, 9},
		{"a Number below 0 with Newest 0", win(0, epoch(0, "a")), win(0, epoch(-1, "a")), 8, 9},
		{"Numbers that stand still", win(3, two(1, 2)...), win(3, two(2, 2)...), 8, 9},
		{"Numbers that stand still at 0", win(3, two(0, 1)...), win(3, two(0, 0)...), 8, 9},
		{"Numbers that fall", win(3, two(1, 2)...), win(3, two(2, 1)...), 8, 9},
		{"Numbers that fall behind others", win(4, epoch(1, "a"), epoch(2, "b"), epoch(3, "c")), win(4, epoch(1, "a"), epoch(3, "b"), epoch(2, "c")), 8, 9},
		{"Numbers that come back", win(4, epoch(1, "a"), epoch(2, "b"), epoch(3, "c")), win(4, epoch(1, "a"), epoch(2, "b"), epoch(1, "c")), 8, 9},
		{"a Number above Newest", win(3, epoch(3, "a")), win(3, epoch(4, "a")), 8, 9},
		{"a Number far above Newest", win(3, epoch(3, "a")), win(3, epoch(math.MaxInt64, "a")), 8, 9},
		{"the last Number above Newest", win(3, two(2, 3)...), win(3, two(2, 4)...), 8, 9},
		{"a Number above 2^62", win(top, epoch(top, "a")), win(top, epoch(top+1, "a")), 8, 9},
		{"a Number at Newest - span", win(9, epoch(2, "a")), win(9, epoch(1, "a")), 8, 9},
		{"a Number at Newest - span, span 1", win(9, epoch(9, "a")), win(9, epoch(8, "a")), 1, 9},
		{"a Number at Newest - span, span 3", win(9, epoch(7, "a")), win(9, epoch(6, "a")), 3, 9},
		{"the first of two Numbers at Newest - span", win(9, two(2, 9)...), win(9, two(1, 9)...), 8, 9},
		{"a Number at Newest - span at the top", win(top, epoch(top-7, "a")), win(top, epoch(top-8, "a")), 8, 9},
		{"an epoch with no tag", win(3, two(2, 3)...), win(3, epoch(2, "a"), epoch(3, "")), 8, 9},
		{"the first epoch with no tag", win(3, two(2, 3)...), win(3, epoch(2, ""), epoch(3, "b")), 8, 9},
		{"the only epoch with no tag", win(3, epoch(3, "a")), win(3, epoch(3, "")), 8, 1},
		{"tags that stand still", win(3, epoch(3, "ab")), win(3, epoch(3, "bb")), 8, 9},
		{"tags that fall", win(3, epoch(3, "ab")), win(3, epoch(3, "ba")), 8, 9},
		{"the last tags stand still", win(3, epoch(3, "abc")), win(3, epoch(3, "abb")), 8, 9},
		{"the last tags fall", win(3, epoch(3, "acd")), win(3, epoch(3, "adc")), 8, 9},
		{"a tag that comes back", win(3, epoch(3, "abc")), win(3, epoch(3, "aba")), 8, 9},
		{"tags that fall in the second epoch", win(3, epoch(2, "a"), epoch(3, "bc")), win(3, epoch(2, "a"), epoch(3, "cb")), 8, 9},
		{"tags that stand still in the first epoch", win(3, epoch(2, "ab"), epoch(3, "c")), win(3, epoch(2, "aa"), epoch(3, "c")), 8, 9},
		{"a tag in two epochs", win(3, epoch(2, "a"), epoch(3, "b")), win(3, epoch(2, "a"), epoch(3, "a")), 8, 9},
		{"a tag in two epochs, first and last", win(3, epoch(2, "ab"), epoch(3, "cd")), win(3, epoch(2, "ad"), epoch(3, "cd")), 8, 9},
		{"a tag in two epochs that are not neighbours", win(3, epoch(1, "a"), epoch(2, "b"), epoch(3, "c")), win(3, epoch(1, "a"), epoch(2, "b"), epoch(3, "a")), 8, 9},
		{"one tag more than the room", win(3, epoch(3, "ab")), win(3, epoch(3, "abc")), 8, 2},
		{"one tag more than the room, in two epochs", win(3, epoch(2, "ab"), epoch(3, "c")), win(3, epoch(2, "ab"), epoch(3, "cd")), 8, 3},
		{"one tag and no room", win(3), win(3, epoch(3, "a")), 8, 0},
	} {
		if got := window.Check(c.good, c.span, c.room); got != api.OK {
			t.Errorf("%s: Check(%s, %d, %d) = %d of the right one", c.what, told(c.good), c.span, c.room, got)
		}
		if got := window.Check(c.bad, c.span, c.room); got != api.ErrArg {
			t.Errorf("%s: Check(%s, %d, %d) = %d", c.what, told(c.bad), c.span, c.room, got)
		}
		checkCheck(t, c.good, c.span, c.room)
		checkCheck(t, c.bad, c.span, c.room)
	}
}

// P16.1: tags are ordered byte by byte, from the first byte on, a byte above 127 behind one below.
func TestCheckOrderOfTags(t *testing.T) {
	values := []byte{0, 1, 0x7f, 0x80, 0xfe, 0xff}
	for place := range 16 {
		for _, a := range values {
			for _, b := range values {
				low, high := tag('m'), tag('m')
				low[place], high[place] = a, b
				want := api.ErrArg
				if a < b {
					want = api.OK
				}
				if got := window.Check(win(0, api.Epoch{Tags: [][16]byte{low, high}}), 1, 2); got != want {
					t.Errorf("Check of %x, %x in one epoch = %d; want %d", low, high, got, want)
				}
				// Between epochs there is no order: only the same tag is refused.
				want = api.OK
				if a == b {
					want = api.ErrArg
				}
				if got := window.Check(win(1, api.Epoch{Number: 0, Tags: [][16]byte{low}}, api.Epoch{Number: 1, Tags: [][16]byte{high}}), 2, 2); got != want {
					t.Errorf("Check of %x, %x in two epochs = %d; want %d", low, high, got, want)
				}
			}
		}
	}
	// The first byte that differs decides, whatever stands behind it.
	for first := range 15 {
		low, high := tag(0), tag(0)
		low[first], high[first] = 4, 5
		for i := first + 1; i < 16; i++ {
			low[i] = 0xff
		}
		if got := window.Check(win(0, api.Epoch{Tags: [][16]byte{low, high}}), 1, 2); got != api.OK {
			t.Errorf("Check of %x, %x = %d", low, high, got)
		}
		if got := window.Check(win(0, api.Epoch{Tags: [][16]byte{high, low}}), 1, 2); got != api.ErrArg {
			t.Errorf("Check of %x, %x = %d", high, low, got)
		}
	}
}

// spread: a window with so many tags, in as many epochs as there may be.
func spread(n, epochs int) api.Window {
	w := api.Window{Newest: 100}
	list := numbered(0, n)
	for i := range epochs {
		e := api.Epoch{Number: int64(101 - epochs + i), Tags: list[i*n/epochs : (i+1)*n/epochs]}
		if len(e.Tags) > 0 {
			w.Epochs = append(w.Epochs, e)
		}
	}
	return w
}

// P16.1: just so many tags as the room says, one more and one less, up to MaxRoom, in one epoch and in eight.
func TestCheckRoom(t *testing.T) {
	for _, room := range []int{0, 1, 2, 7, 8, 9, 255, 256, 1000, 4095, 4096} {
		for _, epochs := range []int{1, 2, 8} {
			for _, d := range []int{-1, 0, 1} {
				if room+d < 0 {
					continue
				}
				want := api.OK
				if d > 0 {
					want = api.ErrArg
				}
				if got := window.Check(spread(room+d, epochs), 8, room); got != want {
					t.Errorf("Check of %d tags in %d epochs, room %d = %d; want %d", room+d, epochs, room, got, want)
				}
			}
		}
	}
}

// P16.1: in a full window one tag that is out of its order, or stands in two epochs, is found wherever it stands.
func TestCheckFullWindow(t *testing.T) {
	full := spread(4096, 8)
	if got := window.Check(full, 8, 4096); got != api.OK {
		t.Fatalf("Check of a full window = %d", got)
	}
	for number := range 8 {
		for place := range 512 {
			own := full.Epochs[number].Tags
			other := full.Epochs[(number+place+1)%8].Tags
			was := own[place]
			if own[place] = own[(place+1)%512]; window.Check(full, 8, 4096) != api.ErrArg {
				t.Errorf("epoch %d, tag %d twice in its epoch: OK", number, place)
			}
			own[place] = was
			if place%37 != 0 && place != 511 || (number+place+1)%8 == number {
				continue
			}
			last := own[511]
			if own[511] = other[place]; window.Check(full, 8, 4096) != api.ErrArg {
				t.Errorf("epoch %d, a tag of epoch %d: OK", number, (number+place+1)%8)
			}
			own[511] = last
		}
	}
	if got := window.Check(full, 8, 4096); got != api.OK {
		t.Errorf("Check of the full window as it was = %d", got)
	}
}

// P16.1: no number wraps: every Newest and Number at the ends, for every span.
func TestCheckEnds(t *testing.T) {
	for _, newest := range ends() {
		for _, number := range ends() {
			for _, span := range []int{1, 2, 7, 8} {
				checkCheck(t, win(newest, epoch(number, "a")), span, 1)
			}
		}
		for d := int64(-10); d <= 10; d++ {
			for span := range 10 {
				// This sum may wrap: it is a number like others then.
				checkCheck(t, win(newest, epoch(newest+d, "a")), span, 1)
				checkCheck(t, win(newest, epoch(newest+d, "a"), epoch(newest, "b")), span, 2)
			}
		}
	}
}

// smallEpochs: all epochs with a number from -1 to 3 and at most two tags, of two letters.
func smallEpochs() (out []api.Epoch) {
	for number := int64(-1); number <= 3; number++ {
		for _, letters := range []string{"", "a", "b", "aa", "ab", "ba", "bb"} {
			out = append(out, epoch(number, letters))
		}
	}
	return out
}

// smallWindows: all windows of at most two such epochs, with the newest from -1 to 3.
func smallWindows() (out []api.Window) {
	all := smallEpochs()
	for newest := int64(-1); newest <= 3; newest++ {
		out = append(out, win(newest))
		for _, e := range all {
			out = append(out, win(newest, e))
			for _, f := range all {
				out = append(out, win(newest, e, f))
			}
		}
	}
	return out
}

// P16.1: all small windows, with all spans and rooms about their size.
func TestCheckSmallWindows(t *testing.T) {
	rights := 0
	for _, w := range smallWindows() {
		for span := range 6 {
			for room := -1; room <= 4; room++ {
				if checkCheck(t, w, span, room) == api.OK {
					rights++
				}
			}
		}
	}
	if rights < 500 {
		t.Errorf("only %d are right", rights)
	}
}

// P16.1: windows of more epochs, without a rule, and such as were made to be right.
func TestCheckSomeWindows(t *testing.T) {
	r := rand.New(rand.NewSource(1600))
	for range 20000 {
		checkCheck(t, someWindow(r), r.Intn(10), r.Intn(11)-1)
		span := 1 + r.Intn(8)
		w := someRight(r, span)
		if got := window.Check(w, span, definedLen(w)); got != api.OK {
			t.Errorf("Check(%s, %d, %d) = %d", told(w), span, definedLen(w), got)
		}
		checkCheck(t, w, r.Intn(10), r.Intn(11)-1)
	}
}

// P16.1: Has and Len of any window, right or not: a tag in odd order, twice, in two epochs, in the last epoch, behind epochs without tags.
func TestHasAndLen(t *testing.T) {
	odd := win(-7, epoch(9, "ca"), epoch(3, ""), epoch(9, "abba"), epoch(math.MinInt64, ""), epoch(math.MaxInt64, "z"))
	for _, c := range []struct {
		w     api.Window
		holds string
		n     int
	}{
		{api.Window{}, "", 0}, {win(5, epoch(3, "")), "", 0}, {chapters(), "abc", 3}, {odd, "abcz", 7}, {win(math.MaxInt64, epoch(0, "aaaa")), "a", 4}, {win(1, epoch(1, "a"), epoch(1, "a")), "a", 2},
	} {
		for letter := byte('a'); letter <= 'z'; letter++ {
			want := slices.Contains([]byte(c.holds), letter)
			if got := window.Has(c.w, tag(letter)); got != want {
				t.Errorf("Has(%s, %c) = %v; want %v", told(c.w), letter, got, want)
			}
		}
		if got := window.Len(c.w); got != c.n {
			t.Errorf("Len(%s) = %d; want %d", told(c.w), got, c.n)
		}
	}
	for _, w := range smallWindows() {
		for _, letter := range []byte("abc") {
			if got, want := window.Has(w, tag(letter)), slices.Contains(holdings(w), string(slices.Repeat([]byte{letter}, 16))); got != want {
				t.Errorf("Has(%s, %c) = %v", told(w), letter, got)
			}
		}
		if got := window.Len(w); got != definedLen(w) {
			t.Errorf("Len(%s) = %d", told(w), got)
		}
	}
}

// P16.1: a tag is held with all its sixteen bytes.
func TestHasAllBytes(t *testing.T) {
	w := win(2, epoch(1, "q"), epoch(2, "m"))
	for place := range 16 {
		for _, d := range []byte{1, 0x80, 0xff} {
			near := tag('m')
			near[place] ^= d
			if window.Has(w, near) {
				t.Errorf("Has a tag %x", near)
			}
		}
	}
	full := spread(4096, 8)
	for i, text := range holdings(full) {
		if !window.Has(full, [16]byte([]byte(text))) {
			t.Errorf("a full window has not its tag %d", i)
		}
	}
	for _, other := range numbered(4096, 100) {
		if window.Has(full, other) {
			t.Errorf("a full window has %x", other)
		}
	}
	if got := window.Len(full); got != 4096 {
		t.Errorf("Len of a full window = %d", got)
	}
}

// P16.1: Len goes by no limit.
func TestLenBeyondRoom(t *testing.T) {
	w := api.Window{}
	for i := range 100 {
		w.Epochs = append(w.Epochs, api.Epoch{Number: int64(i % 3), Tags: numbered(0, 300)})
	}
	if got := window.Len(w); got != 30000 {
		t.Errorf("Len = %d", got)
	}
}
