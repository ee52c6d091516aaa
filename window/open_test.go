package window_test

import (
	"math"
	"math/rand"
	"slices"
	"testing"

	"churn/api"
	"churn/window"
)

// P16.1: spans and epochs at their limits and beyond; ErrArg comes ahead of ErrEpoch.
func TestOpenSpanAndEpoch(t *testing.T) {
	w := win(5, epoch(0, "a"), epoch(5, "b"))
	for _, span := range slices.Concat([]int{0, 1, 2, 7, 8, 9, 10}, farInts) {
		for _, at := range []int64{5, 0, 1029, 1030, 1 << 40, top, top + 1, -1, math.MinInt64, math.MaxInt64} {
			got := checkOpen(t, w, at, span)
			if (span < 1 || span > 8 || at < 0 || at > top) && !got.same(refused(api.ErrArg)) {
				t.Errorf("Open at %d with span %d = %v", at, span, got)
			}
		}
	}
	for _, at := range []int64{0, 1, 2, 1023, 1024} {
		if got := open(api.Window{}, at, 1); !got.same(answer{W: win(at)}) {
			t.Errorf("Open(the zero window, %d, 1) = %v", at, got)
		}
	}
	for at, want := range map[int64]api.Errno{1025: api.ErrEpoch, top: api.ErrEpoch, -1: api.ErrArg, top + 1: api.ErrArg} {
		if got := open(api.Window{}, at, 1); !got.same(refused(want)) {
			t.Errorf("Open(the zero window, %d, 1) = %v; want error %d", at, got, want)
		}
	}
}

// P16.1: the epoch at Newest - span and just above it, at Newest + MaxLeap and above it, for every span.
func TestOpenBounds(t *testing.T) {
	for span := 1; span <= 8; span++ {
		w := win(2000, epoch(1990, "a"), epoch(1993, "b"), epoch(1996, "c"), epoch(1999, "d"), epoch(2000, "e"))
		for _, c := range []struct {
			at   int64
			want api.Errno
		}{
			{0, api.ErrEpoch}, {2000 - int64(span) - 1, api.ErrEpoch}, {2000 - int64(span), api.ErrEpoch}, {2000 - int64(span) + 1, api.OK}, {2000, api.OK}, {2001, api.OK},
			{3023, api.OK}, {3024, api.OK}, {3025, api.ErrEpoch}, {3026, api.ErrEpoch}, {top, api.ErrEpoch},
		} {
			if got := checkOpen(t, w, c.at, span); got.Err != c.want {
				t.Errorf("Open at %d, span %d: error %d; want %d", c.at, span, got.Err, c.want)
			}
		}
		// At the top nothing is newer; there the oldest one is the bound alone.
		w = win(top, epoch(top-7, "a"), epoch(top, "b"))
		for d := int64(0); d < 12; d++ {
			want := api.OK
			if d >= int64(span) {
				want = api.ErrEpoch
			}
			if got := checkOpen(t, w, top-d, span); got.Err != want {
				t.Errorf("Open at 2^62 - %d, span %d: error %d; want %d", d, span, got.Err, want)
			}
		}
	}
}

// P16.1, P16.3: what is at the new Newest less span or below falls out; all else stays, in its order, with its tags as they are, whatever they are.
func TestOpenKeeps(t *testing.T) {
	w := win(9, epoch(2, "a"), epoch(3, "bc"), epoch(5, "d"), epoch(8, "ef"), epoch(9, "g"))
	for _, c := range []struct {
		at   int64
		span int
		want answer
	}{
		{9, 8, answer{W: w}}, {2, 8, answer{W: w}}, {9, 7, answer{W: win(9, epoch(3, "bc"), epoch(5, "d"), epoch(8, "ef"), epoch(9, "g"))}},
		{10, 8, answer{W: win(10, epoch(3, "bc"), epoch(5, "d"), epoch(8, "ef"), epoch(9, "g"))}},
		{11, 8, answer{W: win(11, epoch(5, "d"), epoch(8, "ef"), epoch(9, "g"))}}, {12, 8, answer{W: win(12, epoch(5, "d"), epoch(8, "ef"), epoch(9, "g"))}},
		{13, 8, answer{W: win(13, epoch(8, "ef"), epoch(9, "g"))}}, {16, 8, answer{W: win(16, epoch(9, "g"))}}, {17, 8, answer{W: win(17)}}, {1033, 8, answer{W: win(1033)}}, {1034, 8, refused(api.ErrEpoch)},
		{9, 1, answer{W: win(9, epoch(9, "g"))}}, {8, 1, refused(api.ErrEpoch)}, {10, 1, answer{W: win(10)}}, {8, 2, answer{W: win(9, epoch(8, "ef"), epoch(9, "g"))}},
	} {
		if got := open(w, c.at, c.span); !got.same(c.want) {
			t.Errorf("Open at %d, span %d = %v; want %v", c.at, c.span, got, c.want)
		}
	}
	// One that is not right: above Newest, out of order, twice the same number, without tags.
	w = win(9, epoch(40, "ba"), epoch(9, ""), epoch(1, "zz"), epoch(7, "aa"), epoch(-3, "q"), epoch(9, "ab"), epoch(8, ""), epoch(7, "c"))
	want := answer{W: win(10, epoch(40, "ba"), epoch(9, ""), epoch(9, "ab"), epoch(8, ""))}
	if got := open(w, 10, 3); !got.same(want) {
		t.Errorf("Open(%s, 10, 3) = %v; want %v", told(w), got, want)
	}
	// Beside a Newest of 0 those above -span stay, even below 0.
	w = win(0, epoch(-9, "a"), epoch(-8, "b"), epoch(-7, "c"), epoch(-1, "d"), epoch(0, "e"))
	want = answer{W: win(0, epoch(-7, "c"), epoch(-1, "d"), epoch(0, "e"))}
	if got := open(w, 0, 8); !got.same(want) {
		t.Errorf("Open(%s, 0, 8) = %v; want %v", told(w), got, want)
	}
}

// P16.1: every Newest and every epoch near 0, with every span, about a row of epochs without a gap.
func TestOpenNearNought(t *testing.T) {
	row := []api.Epoch{}
	for number := int64(-12); number <= 30; number++ {
		row = append(row, epoch(number, "x"))
	}
	for newest := int64(-12); newest <= 20; newest++ {
		for at := int64(-2); at <= 22; at++ {
			for span := range 10 {
				checkOpen(t, win(newest, row...), at, span)
			}
		}
	}
}

// P16.1: no sum and no difference wraps, whatever stands in Newest and in Numbers.
func TestOpenEnds(t *testing.T) {
	var row []api.Epoch
	for _, number := range ends() {
		row = append(row, epoch(number, "x"))
	}
	for _, newest := range ends() {
		for _, at := range ends() {
			for _, span := range []int{0, 1, 2, 7, 8, 9} {
				checkOpen(t, win(newest, row...), at, span)
			}
		}
	}
}

// P16.1: the words at the ends, told one by one.
func TestOpenEndsTold(t *testing.T) {
	row := []api.Epoch{epoch(math.MinInt64, "a"), epoch(-1, "b"), epoch(0, "c"), epoch(top, "d"), epoch(math.MaxInt64, "e")}
	for _, c := range []struct {
		newest, at int64
		span       int
		want       answer
	}{
		{math.MinInt64, 0, 8, refused(api.ErrEpoch)},                                           // above Newest + MaxLeap
		{math.MinInt64, top, 8, refused(api.ErrEpoch)},                                         // Newest - span would wrap to a great number
		{math.MaxInt64, top, 8, refused(api.ErrEpoch)},                                         // Newest + MaxLeap would wrap to a small one
		{math.MaxInt64, 0, 8, refused(api.ErrEpoch)},                                           //
		{-1024, 0, 8, answer{W: win(0, row[1], row[2], row[3], row[4])}},                       // at Newest + MaxLeap
		{-1025, 0, 8, refused(api.ErrEpoch)},                                                   //
		{-1, 0, 1, answer{W: win(0, row[2], row[3], row[4])}},                                  //
		{top + 7, top, 8, answer{W: win(top+7, row[3], row[4])}},                               // a Newest beyond its bound stays
		{top + 8, top, 8, refused(api.ErrEpoch)},                                               //
		{top + 1, top, 1, refused(api.ErrEpoch)},                                               //
		{top - 1024, top, 1, answer{W: win(top, row[3], row[4])}},                              //
		{top - 1025, top, 1, refused(api.ErrEpoch)},                                            //
		{math.MaxInt64, math.MaxInt64, 8, refused(api.ErrArg)},                                 //
		{math.MinInt64, math.MinInt64, 8, refused(api.ErrArg)},                                 //
		{7, 0, 8, answer{W: win(7, row[2], row[3], row[4])}}, {8, 0, 8, refused(api.ErrEpoch)}, // at Newest - span
	} {
		w := win(c.newest, row...)
		if got := open(w, c.at, c.span); !got.same(c.want) {
			t.Errorf("Open(%s, %d, %d) = %v; want %v", told(w), c.at, c.span, got, c.want)
		}
	}
}

// P16.1: all small windows, right or not.
func TestOpenSmallWindows(t *testing.T) {
	for _, w := range smallWindows() {
		for at := int64(0); at <= 5; at++ {
			for span := 1; span <= 3; span++ {
				checkOpen(t, w, at, span)
			}
		}
	}
}

// P16.1, P16.2, P16.3: of a right window comes a right one for the same span and room; it holds just the tags of the epochs that are kept.
func TestOpenOfRightIsRight(t *testing.T) {
	r := rand.New(rand.NewSource(1610))
	opened := 0
	for range 20000 {
		span := 1 + r.Intn(8)
		w := someRight(r, span)
		room := definedLen(w) + r.Intn(2)
		at := max(0, w.Newest+int64(r.Intn(20)-9))
		got := checkOpen(t, w, at, span)
		if got.Err != api.OK {
			continue
		}
		opened++
		if e := window.Check(got.W, span, room); e != api.OK || definedCheck(got.W, span, room) != api.OK {
			t.Errorf("Open(%s, %d, %d) = %v is not right for room %d: %d", told(w), at, span, got, room, e)
		}
		var kept []api.Epoch
		for _, e := range w.Epochs {
			if e.Number > max(w.Newest, at)-int64(span) {
				kept = append(kept, e)
			}
		}
		for letter := byte('a'); letter <= 'p'; letter++ {
			if got, want := window.Has(got.W, tag(letter)), window.Has(win(0, kept...), tag(letter)); got != want {
				t.Errorf("Open(%s, %d, %d) has %c: %v; want %v", told(w), at, span, letter, got, want)
			}
		}
	}
	if opened < 5000 {
		t.Errorf("only %d were opened", opened)
	}
}

// P16.1: windows without a rule.
func TestOpenSomeWindows(t *testing.T) {
	r := rand.New(rand.NewSource(1611))
	for range 20000 {
		w := someWindow(r)
		checkOpen(t, w, w.Newest+int64(r.Intn(24)-11), r.Intn(10))
	}
}

// P16.1: a window opened at one of the epochs that are kept stays as it is, and opened twice is as opened once.
func TestOpenAgain(t *testing.T) {
	r := rand.New(rand.NewSource(1612))
	for range 2000 {
		span := 1 + r.Intn(8)
		w := someRight(r, span)
		for at := max(0, w.Newest-int64(span)+1); at <= w.Newest; at++ {
			if got := open(w, at, span); !got.same(answer{W: w}) {
				t.Errorf("Open(%s, %d, %d) = %v", told(w), at, span, got)
			}
		}
		once := open(w, w.Newest+r.Int63n(12), span)
		if twice := open(once.W, once.W.Newest, span); once.Err != api.OK || !twice.same(once) {
			t.Errorf("opened once: %v, twice: %v", once, twice)
		}
	}
}
