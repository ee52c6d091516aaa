package window_test

import (
	"math"
	"math/rand"
	"slices"
	"strings"
	"testing"

	"churn/api"
	"churn/window"
)

// P16.1: rooms, epochs and windows at their limits and beyond, and which error comes first where several are met.
func TestAddErrors(t *testing.T) {
	w := win(20, epoch(13, "a"), epoch(20, "b"))
	broken := win(20, epoch(12, "a"), epoch(20, "b"))
	for _, c := range []struct {
		what string
		w    api.Window
		at   int64
		list string
		room int
		want api.Errno
	}{
		{"room below 0", w, 20, "", -1, api.ErrArg}, {"room above MaxRoom", w, 20, "", 4097, api.ErrArg}, {"room at MaxRoom", w, 20, "", 4096, api.OK},
		{"the window isn't right", broken, 20, "", 9, api.ErrArg}, {"both", broken, 20, "", -1, api.ErrArg},
		{"room below 0, and the epoch", w, 21, "", -1, api.ErrArg}, {"room above MaxRoom, and the epoch", w, -1, "", 4097, api.ErrArg}, {"room below 0, which is full too", w, 20, "c", -1, api.ErrArg},
		{"not right, and the epoch above Newest", broken, 21, "", 9, api.ErrArg}, {"not right, and the epoch below 0", broken, -1, "", 9, api.ErrArg}, {"not right, and full", broken, 20, "cd", 0, api.ErrArg}, {"all three", broken, -1, "cd", 0, api.ErrArg},
		{"the epoch below 0", w, -1, "", 9, api.ErrEpoch}, {"above Newest", w, 21, "", 9, api.ErrEpoch}, {"at Newest", w, 20, "", 9, api.OK},
		{"at Newest - MaxSpan", w, 12, "", 9, api.ErrEpoch}, {"just above it", w, 13, "", 9, api.OK}, {"below Newest - MaxSpan", w, 11, "", 9, api.ErrEpoch}, {"the epoch 0", w, 0, "", 9, api.ErrEpoch},
		{"the epoch above Newest, and full", w, 21, "cd", 2, api.ErrEpoch}, {"too old, and full", w, 12, "cd", 2, api.ErrEpoch}, {"below 0, and full", w, -1, "", 0, api.ErrEpoch},
		{"far epochs", w, math.MinInt64, "", 9, api.ErrEpoch}, {"far epochs", w, math.MaxInt64, "", 9, api.ErrEpoch}, {"far epochs", w, 1<<32 + 20, "", 9, api.ErrEpoch}, {"far epochs", w, top, "", 9, api.ErrEpoch},
		{"no new tag, but too little room already", w, 20, "", 1, api.ErrFull}, {"just room", w, 20, "", 2, api.OK}, {"no new tag in the list, too little room", w, 20, "ab", 1, api.ErrFull}, {"just room", w, 20, "ab", 2, api.OK},
		{"one new tag", w, 20, "c", 2, api.ErrFull}, {"one new tag", w, 20, "c", 3, api.OK}, {"two new tags", w, 20, "cd", 3, api.ErrFull}, {"two new tags", w, 20, "cd", 4, api.OK},
		{"one new tag twice", w, 20, "cc", 3, api.OK}, {"one new tag twice", w, 20, "cc", 2, api.ErrFull}, {"one often, one that is held", w, 14, "cacacbc", 3, api.OK},
		{"the zero window", api.Window{}, 0, "", 0, api.OK}, {"the zero window, one tag", api.Window{}, 0, "a", 0, api.ErrFull}, {"the zero window, one tag", api.Window{}, 0, "a", 1, api.OK}, {"the zero window", api.Window{}, 1, "", 0, api.ErrEpoch}, {"the zero window", api.Window{}, -1, "", 0, api.ErrEpoch},
	} {
		got := add(c.w, c.at, tags(c.list), c.room)
		if got.Err != c.want {
			t.Errorf("%s: Add(%s, %d, %s, %d): error %d; want %d", c.what, told(c.w), c.at, c.list, c.room, got.Err, c.want)
		}
		if got.Err != api.OK && !got.same(refused(got.Err)) {
			t.Errorf("%s: beside error %d stands %s", c.what, got.Err, told(got.W))
		}
		checkAdd(t, c.w, c.at, tags(c.list), c.room)
	}
	for _, room := range farInts {
		if got := add(w, 20, tags("c"), room); !got.same(refused(api.ErrArg)) {
			t.Errorf("Add with room %d = %v", room, got)
		}
	}
}

// P16.1: Add looks at the window by MaxSpan and MaxRoom, not by the room that it is given: one that breaks a word is refused, whatever else is good.
func TestAddToBrokenWindows(t *testing.T) {
	for _, w := range []api.Window{
		win(-1), win(math.MinInt64), win(top + 1), win(math.MaxInt64),
		win(9, epoch(1, "a")), win(9, epoch(10, "a")), win(3, epoch(-1, "a")), win(9, epoch(8, "a"), epoch(8, "b")), win(9, epoch(8, "a"), epoch(7, "b")),
		win(9, epoch(9, "")), win(9, epoch(8, ""), epoch(9, "a")), win(9, epoch(9, "ba")), win(9, epoch(9, "aa")), win(9, epoch(8, "a"), epoch(9, "a")),
		spread(4097, 8), spread(4097, 1),
	} {
		for _, at := range []int64{w.Newest, 9, 0, -1, math.MinInt64} {
			for _, room := range []int{0, 9, 4096} {
				if got := add(w, at, tags("x"), room); !got.same(refused(api.ErrArg)) {
					t.Errorf("Add(%s, %d, x, %d) = %v", told(w), at, room, got)
				}
			}
		}
	}
	// A window that is greater than the room, but no greater than MaxRoom, is full; one that is right for MaxSpan alone is taken.
	if got := add(spread(4096, 8), 100, nil, 4095); !got.same(refused(api.ErrFull)) {
		t.Errorf("Add to 4096 tags with room 4095 = %v", got)
	}
	if got := add(win(9, epoch(2, "a")), 2, tags("b"), 2); !got.same(answer{W: win(9, epoch(2, "ab"))}) {
		t.Errorf("Add to the oldest epoch = %v", got)
	}
}

// P16.1: the epoch is put in at its place, first, between or last, where there are new tags; where there are none it isn't.
func TestAddPutsEpochsIn(t *testing.T) {
	w := win(9, epoch(4, "d"), epoch(7, "f"))
	for _, c := range []struct {
		at   int64
		list string
		want api.Window
	}{
		{3, "x", win(9, epoch(3, "x"), epoch(4, "d"), epoch(7, "f"))}, {2, "yx", win(9, epoch(2, "xy"), epoch(4, "d"), epoch(7, "f"))},
		{5, "x", win(9, epoch(4, "d"), epoch(5, "x"), epoch(7, "f"))}, {6, "a", win(9, epoch(4, "d"), epoch(6, "a"), epoch(7, "f"))},
		{8, "x", win(9, epoch(4, "d"), epoch(7, "f"), epoch(8, "x"))}, {9, "a", win(9, epoch(4, "d"), epoch(7, "f"), epoch(9, "a"))},
		{4, "x", win(9, epoch(4, "dx"), epoch(7, "f"))}, {4, "a", win(9, epoch(4, "ad"), epoch(7, "f"))}, {7, "zea", win(9, epoch(4, "d"), epoch(7, "aefz"))},
		{3, "", w}, {5, "", w}, {9, "", w}, {4, "", w}, {7, "", w},
		{3, "d", w}, {5, "df", w}, {9, "fdfd", w}, {4, "f", w}, {7, "d", w}, {4, "d", w}, {7, "ff", w},
		{5, "dxf", win(9, epoch(4, "d"), epoch(5, "x"), epoch(7, "f"))}, {7, "dxdx", win(9, epoch(4, "d"), epoch(7, "fx"))},
	} {
		if got := add(w, c.at, tags(c.list), 5); !got.same(answer{W: c.want}) {
			t.Errorf("Add(%s, %d, %s, 5) = %v; want %s", told(w), c.at, c.list, got, told(c.want))
		}
	}
	for at := int64(2); at <= 9; at++ {
		if got := add(win(9), at, tags("ba"), 2); !got.same(answer{W: win(9, epoch(at, "ab"))}) {
			t.Errorf("Add to no epochs at %d = %v", at, got)
		}
	}
}

// P16.1: at the ends of what is right: Newest 2^62 and below MaxSpan, every epoch about them.
func TestAddEnds(t *testing.T) {
	for _, newest := range []int64{0, 1, 6, 7, 8, 9, 1 << 32, top - 1, top} {
		for d := int64(-3); d <= 10; d++ {
			at := newest - d
			want := api.OK
			if at < 0 || d < 0 || d >= 8 {
				want = api.ErrEpoch
			}
			if got := checkAdd(t, win(newest), at, tags("ab"), 2); got.Err != want {
				t.Errorf("Add to newest %d at %d: error %d; want %d", newest, at, got.Err, want)
			}
			checkAdd(t, win(newest, epoch(newest, "m")), at, tags("bma"), 3)
		}
		for _, at := range ends() {
			checkAdd(t, win(newest, epoch(newest, "m")), at, tags("bma"), 3)
		}
	}
}

// P16.1: a tag goes to its place by its bytes, the first one first.
func TestAddOrderOfTags(t *testing.T) {
	r := rand.New(rand.NewSource(1620))
	for range 300 {
		var list [][16]byte
		for range 1 + r.Intn(30) {
			next := tag('m')
			next[r.Intn(16)] = byte(r.Intn(256))
			next[r.Intn(16)] ^= 0x80
			list = append(list, next)
		}
		got := checkAdd(t, win(0), 0, list, 30)
		if got.Err != api.OK || !slices.IsSorted(texts(got.W.Epochs[0].Tags)) {
			t.Errorf("Add of %x = %v", list, got)
		}
		half := checkAdd(t, win(0), 0, list[:len(list)/2], 30)
		checkAdd(t, half.W, 0, list, 30)
	}
}

// P16.1: ErrFull at the room and one above it, up to MaxRoom, with tags twice and tags that are held in the list.
func TestAddRoom(t *testing.T) {
	for _, room := range []int{1, 2, 8, 255, 256, 4095, 4096} {
		for _, already := range []int{0, 1, room / 2, room - 1, room} {
			w := spread(already, min(8, already+1))
			list := slices.Concat(numbered(0, already), numbered(already, room-already))
			slices.Reverse(list)
			list = slices.Concat(list, numbered(0, room))
			got := add(w, 97, list, room)
			if got.Err != api.OK || window.Len(got.W) != room || window.Check(got.W, 8, room) != api.OK || !slices.Equal(holdings(got.W), texts(numbered(0, room))) {
				t.Errorf("room %d, %d are held: error %d, %d tags", room, already, got.Err, window.Len(got.W))
			}
			for _, over := range [][][16]byte{slices.Concat(list, numbered(room, 1)), slices.Concat(numbered(room, 1), list)} {
				if got := add(w, 97, over, room); !got.same(refused(api.ErrFull)) {
					t.Errorf("room %d, %d are held, one more: error %d, %d tags", room, already, got.Err, window.Len(got.W))
				}
			}
		}
	}
}

// P16.1: a list that is far longer than the room, but of few tags, is taken; one of many tags isn't.
func TestAddLongLists(t *testing.T) {
	list := slices.Repeat(tags("cabcba"), 20000)
	if got := add(win(3), 2, list, 3); !got.same(answer{W: win(3, epoch(2, "abc"))}) {
		t.Errorf("Add of %d tags of three kinds = %v", len(list), got)
	}
	if got := add(win(3), 2, numbered(0, 60000), 4096); !got.same(refused(api.ErrFull)) {
		t.Errorf("Add of 60000 tags: error %d", got.Err)
	}
}

// smallRights: all windows of Newest 0 to 3 that are right for span 4, with at most three letters.
func smallRights() (out []api.Window) {
	for newest := int64(0); newest <= 3; newest++ {
		places := int(newest) + 2 // each letter stands in one of the epochs, or in none
		for code := range places * places * places {
			var all []seen
			for i, letter := range []string{"b", "d", "f"} {
				place := []int{code % places, code / places % places, code / places / places}[i]
				if place > 0 {
					all = append(all, seen{int64(place - 1), strings.Repeat(letter, 16)})
				}
			}
			out = append(out, gathered(newest, all))
		}
	}
	return out
}

// letterLists: all lists of at most so many of the letters.
func letterLists(letters string, most int) []string {
	out := []string{""}
	for from := 0; most > 0; most-- {
		end := len(out)
		for _, s := range out[from:end] {
			for _, l := range letters {
				out = append(out, s+string(l))
			}
		}
		from = end
	}
	return out
}

// P16.1, P16.2, P16.3: all small right windows, all epochs about them, all lists of at most two tags, all rooms about them; what comes is right and holds just what it should.
func TestAddSmallWindows(t *testing.T) {
	for _, w := range smallRights() {
		for at := int64(-1); at <= w.Newest+1; at++ {
			for _, list := range letterLists("abdg", 2) {
				for room := -1; room <= 6; room++ {
					got := checkAdd(t, w, at, tags(list), room)
					if got.Err != api.OK {
						continue
					}
					span := int(w.Newest-min(at, firstNumber(w))) + 1
					if window.Check(got.W, span, room) != api.OK || definedCheck(got.W, span, room) != api.OK {
						t.Errorf("Add(%s, %d, %s, %d) = %v is not right for span %d", told(w), at, list, room, got, span)
					}
				}
			}
		}
	}
}

// firstNumber: the oldest epoch's, or the newest where there is none.
func firstNumber(w api.Window) int64 {
	if len(w.Epochs) == 0 {
		return w.Newest
	}
	return w.Epochs[0].Number
}

// P16.1, P16.2, P16.3: windows and lists without a rule.
func TestAddSomeWindows(t *testing.T) {
	r := rand.New(rand.NewSource(1621))
	for range 20000 {
		checkAdd(t, someWindow(r), r.Int63n(14)-2, someTags(r, 6), r.Intn(16)-1)
		span := 1 + r.Intn(8)
		w := someRight(r, span)
		list, at, room := someTags(r, 8), w.Newest-int64(r.Intn(span)), definedLen(w)+r.Intn(8)
		got := checkAdd(t, w, at, list, room)
		if got.Err != api.OK {
			continue
		}
		if e := window.Check(got.W, span, room); e != api.OK {
			t.Errorf("Add(%s, %d, %s, %d) = %v is not right for span %d: %d", told(w), at, told(win(0, api.Epoch{Tags: list})), room, got, span, e)
		}
		for letter := byte('a'); letter <= 'p'; letter++ {
			want := window.Has(w, tag(letter)) || slices.Contains(list, tag(letter))
			if window.Has(got.W, tag(letter)) != want {
				t.Errorf("Add(%s, %d, .., %d) = %v has %c: %v", told(w), at, room, got, letter, !want)
			}
		}
	}
}

// P16.1: a tag that another epoch holds stays there; this one gets none of it.
func TestAddLeavesOtherEpochs(t *testing.T) {
	w := win(9, epoch(2, "ab"), epoch(5, "cd"), epoch(9, "ef"))
	for at := int64(2); at <= 9; at++ {
		if got := add(w, at, tags("fedcbaabcdef"), 6); !got.same(answer{W: w}) {
			t.Errorf("Add of all that is held at %d = %v", at, got)
		}
		got := add(w, at, tags("fgc"), 7)
		for _, e := range got.W.Epochs {
			want := ""
			switch e.Number {
			case 2:
				want = "ab"
			case 5:
				want = "cd"
			case 9:
				want = "ef"
			}
			if e.Number == at {
				want += "g"
			}
			if !slices.Equal(e.Tags, tags(want)) {
				t.Errorf("Add of f g c at %d = %v", at, got)
			}
		}
	}
}
