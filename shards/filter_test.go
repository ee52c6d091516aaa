package shards_test

import (
	"fmt"
	"math"
	"math/rand"
	"slices"
	"testing"

	"churn/shards"
)

// checkOffers: offers a list to a new filter, and looks at it behind each offer.
func checkOffers(t *testing.T, count int, list []offer, beside ...[16]byte) {
	t.Helper()
	f := made(t, count)
	for i, o := range list {
		f.Offer(o.tag, o.index)
		checkFilter(t, fmt.Sprintf("%d shards, %v", count, list[:i+1]), f, list[:i+1], beside...)
	}
}

// at: offers of one tag at these indexes.
func at(tag [16]byte, indexes ...int) (list []offer) {
	for _, index := range indexes {
		list = append(list, offer{tag, index})
	}
	return list
}

// P17.1: one tag at rising, falling and equal indexes, below 0, about 0 and at the ends of the numbers.
func TestOneTag(t *testing.T) {
	rising, falling := slices.Clone(ends), slices.Clone(ends)
	slices.Reverse(falling)
	for _, count := range []int{1, 5, 64} {
		for _, indexes := range [][]int{rising, falling, {4, 4, 4}, {0, 0}, {0, 1}, {1, 0}, {-1, -1}, {-1, 0}, {0, -1}, {5, -5}, {-5, 5}, {-7, -3, -5}, {math.MinInt, math.MaxInt}, {math.MaxInt, math.MinInt}, {math.MaxInt, math.MaxInt}, {math.MinInt, math.MinInt}} {
			for _, tag := range [][16]byte{tag('t'), tag(0), tag(0xff)} {
				checkOffers(t, count, at(tag, indexes...), [16]byte{1}, [16]byte{15: 1})
			}
		}
	}
}

// P17.1: each two ends of the numbers, in both orders: the lower one is kept.
func TestTwoIndexes(t *testing.T) {
	for _, a := range ends {
		for _, b := range ends {
			f := made(t, 3)
			offerAll(f, at(tag('t'), a, b))
			if got := asked(f, tag('t')); got != (lowest{min(a, b), true}) || f.Len() != 1 {
				t.Errorf("offered at %d and %d: %v, Len %d", a, b, got, f.Len())
			}
		}
	}
}

// P17.1: a first offer counts whatever its index is; 0 is an index like each other.
func TestFirstOffer(t *testing.T) {
	for _, index := range ends {
		for _, count := range fewCounts {
			checkOffers(t, count, at(tag('t'), index), tag('u'))
		}
	}
}

// P17.1: tags that differ in one bit alone are different tags; one that was not offered is not there, and to ask for it changes nothing.
func TestNeighboursAreNotThere(t *testing.T) {
	middle := split(0x0123456789abcdef, 0xfedcba9876543210)
	for _, count := range fewCounts {
		f := made(t, count)
		f.Offer(middle, 9)
		for bit := range 128 {
			beside := middle
			beside[bit/8] ^= 1 << (bit % 8)
			if got := asked(f, beside); got != (lowest{}) {
				t.Errorf("%d shards: Lowest of a tag with bit %d turned = %v", count, bit, got)
			}
		}
		checkFilter(t, "one tag", f, at(middle, 9))
	}
}

// P17.1: a tag and all its neighbours by one bit, each with an index of its own.
func TestNeighboursAreApart(t *testing.T) {
	middle := tag(0x5a)
	list := at(middle, 1000)
	for bit := range 128 {
		beside := middle
		beside[bit/8] ^= 1 << (bit % 8)
		list = append(list, offer{beside, bit - 64})
	}
	for _, count := range fewCounts {
		f := made(t, count)
		offerAll(f, list)
		checkFilter(t, fmt.Sprintf("%d shards", count), f, list)
	}
}

// P17.1: all short scripts of offers of three tags at three indexes, looked at behind each step.
func TestShortScripts(t *testing.T) {
	for _, script := range letterLists("abcdefghi", 4) {
		var list []offer
		for _, l := range script {
			// The first two share their head, and so their shard.
			kind := []([16]byte){split(7, 0), split(7, 1), split(8, 0)}[(l-'a')/3]
			list = append(list, offer{kind, int((l-'a')%3) - 1})
		}
		f := made(t, 2)
		offerAll(f, list)
		checkFilter(t, script, f, list, split(7, 0), split(7, 1), split(8, 0), split(8, 1))
	}
}

// someOffers: offers of few tags, so that many come again.
func someOffers(r *rand.Rand, kinds, n int) (list []offer) {
	pool := make([][16]byte, kinds)
	for i := range pool {
		pool[i] = someTag(r)
		if i > 0 && r.Intn(3) == 0 {
			copy(pool[i][:8], pool[i-1][:8])
		}
	}
	for range n {
		list = append(list, offer{pool[r.Intn(kinds)], r.Intn(41) - 20})
	}
	return list
}

// P17.1: scripts without a rule.
func TestSomeScripts(t *testing.T) {
	r := rand.New(rand.NewSource(1710))
	for range 300 {
		list := someOffers(r, 1+r.Intn(12), 1+r.Intn(30))
		checkOffers(t, 1+r.Intn(64), list, someTag(r))
	}
}

// P17.1: many tags, in every shard some.
func TestManyTags(t *testing.T) {
	list := numbered(0, 5000)
	for _, count := range fewCounts {
		f := made(t, count)
		for i, tag := range list {
			f.Offer(tag, i-2500)
			f.Offer(tag, i-2499)
		}
		for i, tag := range list {
			if got := asked(f, tag); got != (lowest{i - 2500, true}) {
				t.Errorf("%d shards: Lowest of tag %d = %v", count, i, got)
			}
		}
		if f.Len() != 5000 {
			t.Errorf("%d shards: Len = %d", count, f.Len())
		}
	}
}

// P17.2: the same offers in every order, and each twice, leave filters that answer alike.
func TestEveryOrder(t *testing.T) {
	for _, list := range [][]offer{
		slices.Concat(at(tag('a'), 3, 1, 2), at(tag('b'), -1, 0)),
		slices.Concat(at(tag('a'), math.MinInt, 0, math.MaxInt), at(split(1, 1), 5), at(split(1, 2), 5)),
		slices.Concat(at(tag('a'), 4, 4, 5, 5), at(tag('b'), 4)),
		at(tag('a'), 2, 1, 0, -1, -2),
	} {
		for order := range orders(list) {
			for _, count := range []int{1, 2, 64} {
				f, twice := made(t, count), made(t, count)
				offerAll(f, order)
				checkFilter(t, fmt.Sprintf("%d shards, %v", count, order), f, list, tag('z'))
				offerAll(twice, order)
				offerAll(twice, order)
				checkFilter(t, fmt.Sprintf("%d shards, twice %v", count, order), twice, list, tag('z'))
			}
		}
	}
}

// P17.2, P17.4: long lists, turned about and stirred, each offer once or twice, in every number of shards.
func TestOrdersOfLongLists(t *testing.T) {
	r := rand.New(rand.NewSource(1711))
	for count := 1; count <= 64; count++ {
		list := someOffers(r, 40, 120)
		backward := slices.Clone(list)
		slices.Reverse(backward)
		stirred := slices.Concat(list, list)
		r.Shuffle(len(stirred), func(i, j int) { stirred[i], stirred[j] = stirred[j], stirred[i] })
		inPairs := slices.Clone(list)
		for i := range list {
			inPairs = slices.Insert(inPairs, 2*i, list[i])
		}
		beside := someTag(r)
		for i, order := range [][]offer{list, backward, stirred, inPairs} {
			f := made(t, count)
			offerAll(f, order)
			checkFilter(t, fmt.Sprintf("%d shards, order %d", count, i), f, list, beside)
		}
	}
}

// P17.4: filters of every number of shards that are offered the same answer alike, step by step.
func TestEveryNumberOfShards(t *testing.T) {
	r := rand.New(rand.NewSource(1712))
	list := someOffers(r, 30, 90)
	var all []*shards.Filter
	for count := 1; count <= 64; count++ {
		all = append(all, made(t, count))
	}
	for i, o := range list {
		want, n := definedLowest(list[:i+1], o.tag), definedLen(list[:i+1])
		for j, f := range all {
			f.Offer(o.tag, o.index)
			if got := asked(f, o.tag); got != want || f.Len() != n {
				t.Errorf("%d shards, offer %d: %v, Len %d; want %v, %d", j+1, i, got, f.Len(), want, n)
			}
		}
	}
	for j, f := range all {
		checkFilter(t, fmt.Sprintf("%d shards", j+1), f, list, someTag(r))
	}
}

// P17.4: tags that all lie in one shard, or each in a shard of its own, are held alike.
func TestCrowdedShards(t *testing.T) {
	for _, count := range fewCounts {
		var one, own []offer
		for i := range 200 {
			one = append(one, offer{split(uint64(i*count), uint64(i%3)), 200 - i})
			own = append(own, offer{split(uint64(i), uint64(i%3)), i})
		}
		f, g := made(t, count), made(t, count)
		offerAll(f, one)
		offerAll(g, own)
		checkFilter(t, fmt.Sprintf("%d shards, all in one", count), f, one)
		checkFilter(t, fmt.Sprintf("%d shards, in each some", count), g, own)
	}
}

// P17.1: a nil *Filter takes nothing in and answers as an empty one.
func TestNilFilter(t *testing.T) {
	var none *shards.Filter
	list := [][16]byte{tag(0), tag(0xff), tag('t'), split(5, 0)}
	for range 2 {
		for _, tag := range list {
			for _, index := range ends {
				none.Offer(tag, index)
			}
		}
		checkFilter(t, "a nil filter", none, nil, list...)
	}
}

// Rule 1: a Filter that New didn't make has no promise, but it ends no program.
func TestZeroFilter(t *testing.T) {
	var zero shards.Filter
	zero.Offer(tag('a'), 1)
	zero.Lowest(tag('a'))
	zero.Len()
}

// P17.1: filters side by side know nothing of each other.
func TestSideBySide(t *testing.T) {
	for _, count := range []int{1, 4, 64} {
		f, g, empty := made(t, count), made(t, count), made(t, 65-count)
		forF, forG := slices.Concat(at(tag('a'), 5), at(tag('b'), 7)), slices.Concat(at(tag('a'), 3), at(tag('c'), -4))
		for i := range forF {
			f.Offer(forF[i].tag, forF[i].index)
			g.Offer(forG[i].tag, forG[i].index)
			if got := firstsOf(tags("abca"), count, 2); !got.same(firsts{List: []bool{true, true, true, false}}) {
				t.Errorf("Firsts beside filters = %v", got)
			}
		}
		checkFilter(t, "one", f, forF, tag('c'))
		checkFilter(t, "the other", g, forG, tag('b'))
		checkFilter(t, "the third", empty, nil, tags("abc")...)
		checkFilter(t, "one that is made behind them", made(t, count), nil, tags("abc")...)
	}
}

// Rule 5: a filter keeps its own copy of a tag, whatever becomes of the memory from which it was offered.
func TestTagsAreCopied(t *testing.T) {
	f := made(t, 6)
	list := tags("abc")
	for i := range list {
		f.Offer(list[i], i)
		list[i] = tag('!')
	}
	checkFilter(t, "offered from a list", f, slices.Concat(at(tag('a'), 0), at(tag('b'), 1), at(tag('c'), 2)), tag('!'))
	var moving [16]byte
	g, want := made(t, 6), []offer(nil)
	for i := range 16 {
		moving[i]++
		g.Offer(moving, i)
		want = append(want, offer{moving, i})
	}
	checkFilter(t, "offered from one array", g, want)
}
