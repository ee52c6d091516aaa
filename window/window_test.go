package window_test

import (
	"fmt"
	"slices"
	"sync"
	"testing"

	"churn/api"
	"churn/window"
)

// P16.1: the chapter's examples of Check, Has and Len.
func TestExamplesOfCheck(t *testing.T) {
	w := chapters()
	for _, c := range []struct {
		span, room int
		want       api.Errno
	}{{2, 3, api.OK}, {1, 3, api.ErrArg}, {2, 2, api.ErrArg}, {0, 3, api.ErrArg}} {
		if got := window.Check(w, c.span, c.room); got != c.want {
			t.Errorf("Check(W, %d, %d) = %d; want %d", c.span, c.room, got, c.want)
		}
	}
	if !window.Has(w, tag('c')) || window.Has(w, tag('d')) || window.Len(w) != 3 {
		t.Errorf("Has(W, c) = %v, Has(W, d) = %v, Len(W) = %d", window.Has(w, tag('c')), window.Has(w, tag('d')), window.Len(w))
	}
}

// P16.1: the chapter's examples of Open and Add.
func TestExamplesOfOpenAndAdd(t *testing.T) {
	w := chapters()
	for _, c := range []struct {
		what string
		got  answer
		want answer
	}{
		{"Open(W, 5, 2)", open(w, 5, 2), answer{W: chapters()}},
		{"Open(W, 4, 2)", open(w, 4, 2), answer{W: chapters()}},
		{"Open(W, 6, 2)", open(w, 6, 2), answer{W: win(6, epoch(5, "b"))}},
		{"Open(W, 3, 2)", open(w, 3, 2), refused(api.ErrEpoch)},
		{"Open(W, 1030, 2)", open(w, 1030, 2), refused(api.ErrEpoch)},
		{"Open(W, 1029, 2)", open(w, 1029, 2), answer{W: win(1029)}},
		{"Add(W, 5, d a d, 4)", add(w, 5, tags("dad"), 4), answer{W: win(5, epoch(4, "ac"), epoch(5, "bd"))}},
		{"Add(W, 4, b, 4)", add(w, 4, tags("b"), 4), answer{W: chapters()}},
		{"Add(W, 3, d, 4)", add(w, 3, tags("d"), 4), answer{W: win(5, epoch(3, "d"), epoch(4, "ac"), epoch(5, "b"))}},
		{"Add(W, 5, d e, 4)", add(w, 5, tags("de"), 4), refused(api.ErrFull)},
		{"Add(W, 6, d, 4)", add(w, 6, tags("d"), 4), refused(api.ErrEpoch)},
		{"Add of the zero window, 0, nothing, 0", add(api.Window{}, 0, nil, 0), answer{}},
	} {
		if !c.got.same(c.want) {
			t.Errorf("%s = %v; want %v", c.what, c.got, c.want)
		}
	}
}

// P16.1: DOC.md's ninth example of the whole: a window of room 3 that holds 2 tags, and two fresh ones.
func TestTwoTagsIntoRoomForOne(t *testing.T) {
	w := win(7, epoch(7, "ab"))
	if got := add(w, 7, tags("cd"), 3); !got.same(refused(api.ErrFull)) {
		t.Errorf("two tags: %v", got)
	}
	if window.Has(w, tag('c')) || window.Has(w, tag('d')) {
		t.Error("the tags aren't as fresh as before")
	}
	if got := add(w, 7, tags("d"), 3); !got.same(answer{W: win(7, epoch(7, "abd"))}) {
		t.Errorf("one tag: %v", got)
	}
}

// P16.1: the errors' numbers, as the document tells them.
func TestNumbersOfErrors(t *testing.T) {
	w := chapters()
	for _, c := range []struct {
		what string
		got  api.Errno
		want int
	}{
		{"Check", window.Check(w, 2, 3), 0}, {"Check of span 0", window.Check(w, 0, 3), 2}, {"Check of a wrong one", window.Check(w, 1, 3), 2},
		{"Open", open(w, 5, 2).Err, 0}, {"Open with span 9", open(w, 5, 9).Err, 2}, {"Open at -1", open(w, -1, 2).Err, 2}, {"Open at 3", open(w, 3, 2).Err, 161}, {"Open at 1030", open(w, 1030, 2).Err, 161},
		{"Add", add(w, 5, tags("d"), 4).Err, 0}, {"Add with room -1", add(w, 5, nil, -1).Err, 2}, {"Add to a wrong one", add(win(-1), 5, nil, 1).Err, 2}, {"Add at 6", add(w, 6, nil, 4).Err, 161}, {"Add of too many", add(w, 5, tags("de"), 4).Err, 160},
	} {
		if int(c.got) != c.want {
			t.Errorf("%s: error %d; want %d", c.what, c.got, c.want)
		}
	}
}

// Rule 4: nil and empty are the same in what is handed in.
func TestNilAndEmpty(t *testing.T) {
	none := api.Window{Epochs: []api.Epoch{}}
	if window.Check(none, 1, 0) != api.OK || window.Len(none) != 0 || window.Has(none, [16]byte{}) {
		t.Error("a window with an empty list of epochs")
	}
	if got := add(none, 0, [][16]byte{}, 0); !got.same(answer{}) {
		t.Errorf("Add of an empty list = %v", got)
	}
	if got := open(none, 3, 1); !got.same(answer{W: win(3)}) {
		t.Errorf("Open = %v", got)
	}
	for _, list := range [][][16]byte{nil, {}} {
		w := win(3, api.Epoch{Number: 3, Tags: list})
		if window.Check(w, 1, 0) != api.ErrArg || !open(w, 3, 1).same(answer{W: w}) || !add(w, 3, nil, 0).same(refused(api.ErrArg)) {
			t.Errorf("an epoch with the list %v", list)
		}
	}
}

// A given is what the calls are handed.
type given struct {
	w          api.Window
	at         int64
	list       [][16]byte
	span, room int
}

// givens: good arguments and bad ones.
func givens() []given {
	w := win(9, epoch(2, "bd"), epoch(5, "fhj"), epoch(9, "l"))
	return []given{
		{w, 9, tags("zayab"), 8, 10}, {w, 2, tags("ace"), 8, 9}, {w, 5, tags("gi"), 8, 8}, {w, 4, tags("x"), 8, 7}, {w, 8, tags("yx"), 8, 9}, {w, 3, tags("lj"), 8, 6}, {w, 9, nil, 8, 6},
		{w, 9, tags("xyz"), 8, 8}, {w, 10, tags("x"), 8, 9}, {w, 1, tags("x"), 8, 9}, {w, 9, tags("x"), 9, -1}, {w, 7, tags("x"), 4, 9}, {w, 12, tags("x"), 5, 9}, {w, 1000, tags("x"), 5, 9},
		{win(3, epoch(3, "ba"), epoch(1, "aa"), epoch(2, "")), 3, tags("c"), 8, 9}, {api.Window{}, 0, tags("cab"), 1, 3}, {api.Window{}, 0, nil, 1, 0}, {spread(4000, 8), 96, numbered(4000, 96), 8, 4096},
	}
}

// calls: what all calls answer to these.
func (g given) calls() (check api.Errno, has, n int, opened, added answer) {
	for _, letter := range tags("abcdefghijkl") {
		if window.Has(g.w, letter) {
			has++
		}
	}
	return window.Check(g.w, g.span, g.room), has, window.Len(g.w), open(g.w, g.at, g.span), add(g.w, g.at, g.list, g.room)
}

// A field is memory in which a window and a list lie, with something ahead of each list and in its spare room.
type field struct {
	epochs []api.Epoch
	tags   [][][16]byte
}

const rim = 5 // how much lies ahead of a list, and how much behind

// roomy: the list in the midst of more memory, and that memory.
func roomy[T any](list []T, around T) (inside, all []T) {
	all = slices.Concat(slices.Repeat([]T{around}, rim), list, slices.Repeat([]T{around}, rim))
	return all[rim : rim+len(list)], all
}

// laid: the same arguments, laid into memory of that kind.
func (g given) laid() (given, field) {
	var f field
	w := cloned(g.w)
	for i := range w.Epochs {
		inside, all := roomy(w.Epochs[i].Tags, tag('#'))
		w.Epochs[i].Tags = inside
		f.tags = append(f.tags, all)
	}
	w.Epochs, f.epochs = roomy(w.Epochs, epoch(77, "##"))
	list, all := roomy(g.list, tag('%'))
	f.tags = append(f.tags, all)
	return given{w, g.at, list, g.span, g.room}, f
}

func (f field) clone() field {
	out := field{epochs: cloned(api.Window{Epochs: f.epochs}).Epochs}
	for _, l := range f.tags {
		out.tags = append(out.tags, slices.Clone(l))
	}
	return out
}

func (f field) same(g field) bool {
	return slices.EqualFunc(f.epochs, g.epochs, sameEpoch) && slices.EqualFunc(f.tags, g.tags, slices.Equal)
}

// Rule 5: a window and a list that are handed in stay as they are, what lies about them and in their spare room too.
func TestArgumentsStay(t *testing.T) {
	for i, g := range givens() {
		in, memory := g.laid()
		before := memory.clone()
		in.calls()
		if !memory.same(before) || in.w.Newest != g.w.Newest {
			t.Errorf("arguments %d have become %s", i, told(in.w))
		}
	}
}

// scribble: writes over all of a field.
func (f field) scribble() {
	for _, l := range f.tags {
		for i := range l {
			l[i] = tag('!')
		}
	}
	for i := range f.epochs {
		f.epochs[i] = epoch(-5, "!!!")
	}
}

// Rule 5: an answer is not changed by what becomes of the arguments.
func TestArgumentsAreNotKept(t *testing.T) {
	for i, g := range givens() {
		in, memory := g.laid()
		_, _, _, opened, added := in.calls()
		memory.scribble()
		if want := definedOpen(g.w, g.at, g.span); !opened.same(want) {
			t.Errorf("arguments %d: the opened window has become %v; want %v", i, opened, want)
		}
		if want := definedAdd(g.w, g.at, g.list, g.room); !added.same(want) {
			t.Errorf("arguments %d: the window with the tags has become %v; want %v", i, added, want)
		}
	}
}

// scribbled: writes over a list, room and all, and over what it grows to.
func scribbled[T any](list []T, v T) {
	grown := append(list, v, v, v)
	for _, l := range [][]T{list[:cap(list)], grown} {
		for i := range l {
			l[i] = v
		}
	}
}

// Rule 5: each list of a window that is answered is memory of its own: written over and grown, it shows neither in another list of it nor in the arguments nor in another answer.
func TestListsOfAnswersAreApart(t *testing.T) {
	for i, g := range givens() {
		in, memory := g.laid()
		before := memory.clone()
		_, _, _, opened, added := in.calls()
		_, _, _, openedAgain, addedAgain := in.calls()
		wantOpened, wantAdded := definedOpen(g.w, g.at, g.span), definedAdd(g.w, g.at, g.list, g.room)
		for _, got := range []answer{opened, added} {
			checkListsApart(t, got.W)
			scribbled(got.W.Epochs, epoch(-9, "!"))
		}
		if !openedAgain.same(wantOpened) || !addedAgain.same(wantAdded) {
			t.Errorf("arguments %d: %v and %v beside answers that are written over; want %v and %v", i, openedAgain, addedAgain, wantOpened, wantAdded)
		}
		if !memory.same(before) {
			t.Errorf("arguments %d: the answers share memory with them", i)
		}
		if _, _, _, o, a := in.calls(); !o.same(wantOpened) || !a.same(wantAdded) {
			t.Errorf("arguments %d: %v and %v behind answers that are written over", i, o, a)
		}
	}
}

// checkListsApart: writes over one epoch's tags after the other, from the first to the last and back, and looks whether one that isn't written over yet shows it.
func checkListsApart(t *testing.T, w api.Window) {
	t.Helper()
	want := cloned(w)
	for i, e := range w.Epochs {
		scribbled(e.Tags, tag('!'))
		if !slices.EqualFunc(w.Epochs[i+1:], want.Epochs[i+1:], sameEpoch) {
			t.Errorf("%s: a list behind the one of place %d shows what is written on it", told(want), i)
		}
	}
	for i, e := range w.Epochs {
		copy(e.Tags, want.Epochs[i].Tags)
	}
	for i, e := range slices.Backward(w.Epochs) {
		scribbled(e.Tags, tag('!'))
		if !slices.EqualFunc(w.Epochs[:i], want.Epochs[:i], sameEpoch) {
			t.Errorf("%s: a list ahead of the one of place %d shows what is written on it", told(want), i)
		}
	}
}

// Rule 5: epochs of a window that is handed in may share memory with one another and with the list; those of the answer don't.
func TestSharedArguments(t *testing.T) {
	memory := tags("abcdefgh")
	w := win(9, api.Epoch{Number: 7, Tags: memory[0:2]}, api.Epoch{Number: 8, Tags: memory[2:3]}, api.Epoch{Number: 9, Tags: memory[3:5]})
	list := memory[1:7]
	for at := int64(6); at <= 9; at++ {
		want := definedAdd(win(9, epoch(7, "ab"), epoch(8, "c"), epoch(9, "de")), at, tags("bcdefg"), 7)
		got := add(w, at, list, 7)
		if !got.same(want) || !slices.Equal(memory, tags("abcdefgh")) {
			t.Errorf("Add at %d = %v, memory %s; want %v", at, got, told(win(0, api.Epoch{Tags: memory})), want)
		}
		checkListsApart(t, got.W)
	}
	same := memory[0:3]
	w = win(9, api.Epoch{Number: 8, Tags: same}, api.Epoch{Number: 9, Tags: same})
	got := open(w, 9, 8)
	if !got.same(answer{W: win(9, epoch(8, "abc"), epoch(9, "abc"))}) {
		t.Errorf("Open = %v", got)
	}
	checkListsApart(t, got.W)
	if !slices.Equal(memory, tags("abcdefgh")) {
		t.Error("the answers share memory with the arguments")
	}
}

// Rule 5: an epoch that was put in, or grew, leaves a later Add from the same window as it would have been.
func TestTwoWaysFromOneWindow(t *testing.T) {
	w := add(win(9), 5, tags("m"), 9).W
	for range 3 {
		w = add(w, 9, tags("b"), 9).W
		one, other := add(w, 5, tags("a"), 9), add(w, 5, tags("z"), 9)
		third, fourth := add(w, 7, tags("a"), 9), add(w, 7, tags("z"), 9)
		for _, c := range []struct {
			got  answer
			want api.Window
		}{
			{one, win(9, epoch(5, "am"), epoch(9, "b"))}, {other, win(9, epoch(5, "mz"), epoch(9, "b"))},
			{third, win(9, epoch(5, "m"), epoch(7, "a"), epoch(9, "b"))}, {fourth, win(9, epoch(5, "m"), epoch(7, "z"), epoch(9, "b"))},
		} {
			if !c.got.same(answer{W: c.want}) {
				t.Errorf("%v; want %s", c.got, told(c.want))
			}
		}
	}
}

// Rule 6: what was called before shows in no answer, and many calls at one time go by the same window.
func TestManyAtOneTime(t *testing.T) {
	all := givens()
	var group sync.WaitGroup
	for range 4 {
		for i := range all {
			group.Add(1)
			go func() {
				defer group.Done()
				g := all[i]
				_, _, _, opened, added := g.calls()
				if !opened.same(definedOpen(g.w, g.at, g.span)) {
					t.Errorf("arguments %d: Open = %v", i, opened)
				}
				if again := add(g.w, g.at, g.list, g.room); !again.same(added) {
					t.Errorf("arguments %d: Add = %v; want %v", i, again, added)
				}
			}()
		}
	}
	group.Wait()
}

func ExampleAdd() {
	w, _ := window.Open(api.Window{}, 4, 2)
	w, _ = window.Add(w, 4, [][16]byte{{3}, {1}, {3}}, 5)
	w, e := window.Add(w, 4, [][16]byte{{2}, {1}}, 5)
	fmt.Println(e, w.Newest, len(w.Epochs), window.Len(w))
	for _, tag := range w.Epochs[0].Tags {
		fmt.Print(tag[0], " ")
	}
	// Output:
	// churn: error 0 4 1 3
	// 1 2 3
}

func ExampleOpen() {
	w, _ := window.Add(api.Window{}, 0, [][16]byte{{7}}, 5)
	w, _ = window.Open(w, 1, 2)
	fmt.Println(window.Has(w, [16]byte{7}))
	w, _ = window.Open(w, 2, 2)
	fmt.Println(window.Has(w, [16]byte{7}))
	_, e := window.Open(w, 0, 2)
	fmt.Println(e == api.ErrEpoch)
	// Output:
	// true
	// false
	// true
}
