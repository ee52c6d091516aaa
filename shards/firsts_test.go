package shards_test

import (
	"fmt"
	"math/rand"
	"runtime"
	"slices"
	"testing"

	"churn/api"
)

// checkFirsts: whether Firsts answers what the words say.
func checkFirsts(t *testing.T, list [][16]byte, count, workers int) {
	t.Helper()
	got, want := firstsOf(list, count, workers), firsts{List: definedFirsts(list)}
	if !got.same(want) {
		t.Errorf("Firsts of %d tags, %d, %d = %v; want %v", len(list), count, workers, got, want)
	}
}

// someList: tags of few kinds, some of which share their heads.
func someList(r *rand.Rand, kinds, n int) (list [][16]byte) {
	for _, o := range someOffers(r, kinds, n) {
		list = append(list, o.tag)
	}
	return list
}

// shapes: lists of each kind: none, one, all alike, all unlike, with tags twice, twice over, there and back, all of one head.
func shapes() map[string][][16]byte {
	unlike := numbered(100, 70)
	backward := slices.Clone(unlike)
	slices.Reverse(backward)
	var oneHead [][16]byte
	for i := range 70 {
		oneHead = append(oneHead, split(9, uint64(i*i%37)))
	}
	return map[string][][16]byte{
		"none": nil, "empty": {}, "one": tags("a"), "noughts": {tag(0)}, "two alike": tags("aa"), "two unlike": tags("ab"),
		"all alike": slices.Repeat(tags("a"), 70), "all noughts": slices.Repeat([][16]byte{tag(0)}, 70), "all ff": slices.Repeat([][16]byte{tag(0xff)}, 70),
		"all unlike": unlike, "in pairs": tags("aabbccddeeffgghhiijj"), "twice over": slices.Concat(unlike, unlike), "there and back": slices.Concat(unlike, backward),
		"the last as the first": slices.Concat(unlike, unlike[:1]), "the last two alike": slices.Concat(unlike, unlike[69:]), "all of one head": oneHead,
		"without a rule": someList(rand.New(rand.NewSource(1720)), 30, 70),
	}
}

// P17.3: every number of shards and workers from 1 to 64, with lists of each kind, those with fewer tags than workers among them.
func TestFirstsOfEachShape(t *testing.T) {
	for what, list := range shapes() {
		want := firsts{List: definedFirsts(list)}
		for count := 1; count <= 64; count++ {
			for workers := 1; workers <= 64; workers++ {
				if testing.Short() && (count+3*workers)%16 != 3 {
					continue
				}
				if got := firstsOf(list, count, workers); !got.same(want) {
					t.Errorf("%s: Firsts(.., %d, %d) = %v; want %v", what, count, workers, got, want)
				}
			}
		}
	}
}

// P17.3: all lists of up to six of three tags, two of which share their shard.
func TestFirstsOfAllShortLists(t *testing.T) {
	for _, letters := range letterLists("abc", 6) {
		var list [][16]byte
		for _, l := range letters {
			list = append(list, []([16]byte){split(4, 0), split(4, 1), split(5, 0)}[l-'a'])
		}
		for _, workers := range []int{1, 2, 3, 7, 64} {
			checkFirsts(t, list, 1+workers%4, workers)
		}
	}
}

// P17.3: shards and workers beyond their limits, each beside one that is good and both together, whatever the list is.
func TestFirstsLimits(t *testing.T) {
	for what, list := range shapes() {
		for _, bad := range outside {
			for _, c := range [][2]int{{bad, 1}, {bad, 64}, {1, bad}, {64, bad}, {bad, bad}, {bad, 0}, {0, bad}, {bad, 65}, {65, bad}} {
				if got := firstsOf(list, c[0], c[1]); !got.same(refused(api.ErrArg)) {
					t.Errorf("%s: Firsts(.., %d, %d) = %v", what, c[0], c[1], got)
				}
			}
		}
		for _, c := range [][2]int{{1, 1}, {1, 64}, {64, 1}, {64, 64}} {
			checkFirsts(t, list, c[0], c[1])
		}
	}
}

// P17.3: every length about the number of workers, so that the hands have none, one or two places each.
func TestFirstsLengths(t *testing.T) {
	r := rand.New(rand.NewSource(1721))
	for _, workers := range []int{1, 2, 3, 16, 63, 64} {
		for n := range 2*workers + 3 {
			checkFirsts(t, someList(r, 1+n/2, n), 8, workers)
			checkFirsts(t, numbered(0, n), 8, workers)
		}
	}
}

// P17.3: a tag that stands at any two places: the one ahead is the first, the other isn't; the hands to which the places fall don't show.
func TestFirstsOfTwoPlaces(t *testing.T) {
	for i := range 24 {
		for j := i + 1; j < 24; j++ {
			list := numbered(0, 24)
			list[j] = list[i]
			want := slices.Repeat([]bool{true}, 24)
			want[j] = false
			for workers := 1; workers <= 8; workers++ {
				if got := firstsOf(list, 4, workers); !got.same(firsts{List: want}) {
					t.Errorf("one tag at %d and %d, %d workers: %v", i, j, workers, got)
				}
			}
		}
	}
}

// knownFirsts: what another program told of the tags a * i * i + b * i modulo m, i from 0 on.
var knownFirsts = []struct {
	a, b, m int
	want    string
}{
	{7, 3, 23, "FFFFFFFFF........FFF.................................................."},
	{1, 0, 64, "FFFFFFFF.F.F.F.F.................................................................................................................."},
	{5, 5, 2, "F..................."},
	{11, 2, 97, "FFFFFFFFFFFFFFFFFFFFFFFFFFFFFFFFFFFFFFFFFFFFF............................................FFFF..........................."},
	{3, 1, 256, "FFFFFFFFFFFFFFFFFFFFFFFFFFFFFFFFFFFFFFFFFFF....................."},
}

// P17.3: lists of which another program told the firsts.
func TestKnownFirsts(t *testing.T) {
	for _, c := range knownFirsts {
		var list [][16]byte
		for i := range len(c.want) {
			list = append(list, split(uint64((c.a*i*i+c.b*i)%c.m), 77))
		}
		for _, count := range fewCounts {
			for _, workers := range fewCounts {
				if got, want := firstsOf(list, count, workers).String(), "("+c.want+", error 0)"; got != want {
					t.Errorf("%d i i + %d i modulo %d, %d, %d: %s; want %s", c.a, c.b, c.m, count, workers, got, want)
				}
			}
		}
	}
}

// P17.3: long lists, of few kinds and of many.
func TestFirstsOfLongLists(t *testing.T) {
	n := 50000
	for _, kinds := range []int{1, 2, 100, 40000, n} {
		var list [][16]byte
		var want []bool
		for i := range n {
			list = append(list, split(uint64(i%kinds)*0x9e3779b97f4a7c15, 3))
			want = append(want, i < kinds)
		}
		for _, c := range [][2]int{{1, 1}, {1, 64}, {64, 1}, {64, 64}, {7, 5}, {16, 8}} {
			if got := firstsOf(list, c[0], c[1]); !got.same(firsts{List: want}) {
				t.Errorf("%d tags of %d kinds, %d, %d: %v", n, kinds, c[0], c[1], got)
			}
		}
	}
}

// P17.3: the schedule doesn't show: the same call again and again, with one thread at a time and with several.
func TestFirstsHangOnNoSchedule(t *testing.T) {
	defer runtime.GOMAXPROCS(runtime.GOMAXPROCS(0))
	list := someList(rand.New(rand.NewSource(1722)), 60, 256)
	for _, threads := range []int{1, 2, 8} {
		runtime.GOMAXPROCS(threads)
		for range 200 {
			checkFirsts(t, list, 3, 16)
			checkFirsts(t, list, 64, 64)
		}
	}
}

// P17.2, P17.3: a first is a place at which a filter holds its tag, whoever offered it and when.
func TestFirstsAreTheLowest(t *testing.T) {
	r := rand.New(rand.NewSource(1723))
	for range 100 {
		list := someList(r, 1+r.Intn(50), r.Intn(120))
		f := made(t, 1+r.Intn(64))
		for _, place := range r.Perm(len(list)) {
			f.Offer(list[place], place)
		}
		got := firstsOf(list, 1+r.Intn(64), 1+r.Intn(64))
		count := 0
		for place, is := range got.List {
			if is != (asked(f, list[place]) == lowest{place, true}) {
				t.Errorf("place %d is a first: %v; the filter says %v", place, is, asked(f, list[place]))
			}
			if is {
				count++
			}
		}
		if got.Err != api.OK || len(got.List) != len(list) || count != f.Len() {
			t.Errorf("%d tags: %d answers, %d firsts of %d, error %d", len(list), len(got.List), count, f.Len(), got.Err)
		}
	}
}

// inRoom: a list with something ahead of it and in its spare room, and all of that memory.
func inRoom(list [][16]byte) (inside, all [][16]byte) {
	all = slices.Concat(tags("#####"), list, tags("#####"))
	return all[5 : 5+len(list)], all
}

// Rule 5: a list that is handed in stays as it is, what lies about it and in its spare room too, and isn't kept.
func TestListStays(t *testing.T) {
	for what, list := range shapes() {
		for _, c := range [][2]int{{1, 1}, {64, 64}, {3, 8}, {0, 1}, {1, 65}} {
			inside, all := inRoom(list)
			before := slices.Clone(all)
			got := firstsOf(inside, c[0], c[1])
			if !slices.Equal(all, before) {
				t.Errorf("%s: Firsts(.., %d, %d) has changed the list or what lies about it", what, c[0], c[1])
			}
			held := slices.Clone(got.List)
			// Under the race detector a hand that goes on reading behind the answer is found here too.
			for i := range all {
				all[i] = tag('!')
			}
			if !slices.Equal(got.List, held) {
				t.Errorf("%s: the answer of Firsts(.., %d, %d) changes with the list", what, c[0], c[1])
			}
			if again := firstsOf(list, c[0], c[1]); !again.same(got) {
				t.Errorf("%s: Firsts(.., %d, %d) = %v; behind a list that was written over %v", what, c[0], c[1], got, again)
			}
		}
	}
}

// Rule 5: what is answered is memory of its own, spare room and all: written over and grown it shows in no other answer.
func TestAnswersAreApart(t *testing.T) {
	for what, list := range shapes() {
		want := firsts{List: definedFirsts(list)}
		one, other := firstsOf(list, 4, 4), firstsOf(list, 4, 4)
		for i := range one.List[:cap(one.List)] {
			one.List[:cap(one.List)][i] = len(want.List) > i && !want.List[i]
		}
		grown := append(one.List, true, true)
		if !other.same(want) || !firstsOf(list, 4, 4).same(want) {
			t.Errorf("%s: beside an answer that is written over (%d) stands %v; want %v", what, len(grown), other, want)
		}
	}
}

// Rule 4: nil and empty are the same.
func TestNilAndEmpty(t *testing.T) {
	for _, list := range [][][16]byte{nil, {}, make([][16]byte, 0, 9), tags("abc")[:0]} {
		for _, c := range [][2]int{{1, 1}, {64, 64}, {5, 64}} {
			if got := firstsOf(list, c[0], c[1]); !got.same(firsts{}) {
				t.Errorf("Firsts(%v, %d, %d) = %v", list, c[0], c[1], got)
			}
		}
		for _, c := range [][2]int{{0, 1}, {65, 1}, {1, 0}, {1, 65}} {
			if got := firstsOf(list, c[0], c[1]); !got.same(refused(api.ErrArg)) {
				t.Errorf("Firsts(%v, %d, %d) = %v", list, c[0], c[1], got)
			}
		}
	}
}

// Rule 3: beside an error, and beside a false, every other result is zero.
func TestBesideErrors(t *testing.T) {
	for _, bad := range outside {
		for _, c := range [][2]int{{bad, 1}, {1, bad}} {
			if got := firstsOf(tags("abab"), c[0], c[1]); got.Err == api.OK || len(got.List) != 0 {
				t.Errorf("Firsts(a b a b, %d, %d) = %v", c[0], c[1], got)
			}
		}
	}
	f := made(t, 9)
	for i, tag := range tags("abcdefgh") {
		if got := asked(f, tag); got != (lowest{}) {
			t.Errorf("Lowest of a tag that wasn't offered = %v", got)
		}
		f.Offer(tag, i+1)
	}
	if got := fmt.Sprint(asked(f, tag('z'))); got != "{0 false}" {
		t.Errorf("Lowest of a tag that wasn't offered = %s", got)
	}
}
