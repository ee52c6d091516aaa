package shards_test

import (
	"encoding/hex"
	"fmt"
	"math/rand"
	"testing"

	"churn/api"
	"churn/shards"
)

// P17.1: the chapter's examples of New, Offer, Lowest and Len.
func TestExamplesOfFilter(t *testing.T) {
	for _, count := range []int{0, 65} {
		if f, e := shards.New(count); f != nil || e != api.ErrArg {
			t.Errorf("New(%d) = %v, error %d", count, f, e)
		}
	}
	f := made(t, 1)
	if f.Len() != 0 {
		t.Errorf("New(1): Len = %d", f.Len())
	}
	for _, index := range []int{7, 3, 5} {
		f.Offer(tag('t'), index)
	}
	if got := asked(f, tag('t')); got != (lowest{3, true}) || f.Len() != 1 {
		t.Errorf("offered at 7, 3 and 5: %v, Len %d", got, f.Len())
	}
	f.Offer(tag('t'), -2)
	if got := asked(f, tag('t')); got != (lowest{-2, true}) || f.Len() != 1 {
		t.Errorf("offered at -2 too: %v, Len %d", got, f.Len())
	}
}

// P17.1: the chapter's examples of Shard.
func TestExamplesOfShard(t *testing.T) {
	for _, c := range []struct {
		tag         [16]byte
		count, want int
	}{{[16]byte{7: 5}, 4, 1}, {[16]byte{7: 5, 8: 2, 15: 9}, 4, 1}, {tag(0xff), 64, 63}, {tag(0xff), 10, 5}, {tag(0xff), 0, 0}} {
		if got := shards.Shard(c.tag, c.count); got != c.want {
			t.Errorf("Shard(%x, %d) = %d; want %d", c.tag, c.count, got, c.want)
		}
	}
}

// P17.3: the chapter's examples of Firsts.
func TestExamplesOfFirsts(t *testing.T) {
	want := firsts{List: []bool{true, true, false, true, false}}
	for count := 1; count <= 64; count++ {
		for workers := 1; workers <= 64; workers++ {
			if got := firstsOf(tags("abacb"), count, workers); !got.same(want) {
				t.Errorf("Firsts(a b a c b, %d, %d) = %v", count, workers, got)
			}
		}
	}
	if got := firstsOf(nil, 1, 1); !got.same(firsts{}) {
		t.Errorf("Firsts of none = %v", got)
	}
	if got := firstsOf(nil, 1, 0); !got.same(refused(api.ErrArg)) {
		t.Errorf("Firsts of none with 0 workers = %v", got)
	}
}

// P17.1, P17.3: the errors' numbers, as the document tells them.
func TestNumbersOfErrors(t *testing.T) {
	newError := func(count int) api.Errno {
		_, e := shards.New(count)
		return e
	}
	for _, c := range []struct {
		what string
		got  api.Errno
		want int
	}{
		{"New(0)", newError(0), 2}, {"New(1)", newError(1), 0}, {"New(64)", newError(64), 0}, {"New(65)", newError(65), 2},
		{"0 shards", firstsOf(tags("a"), 0, 1).Err, 2}, {"65 shards", firstsOf(tags("a"), 65, 1).Err, 2}, {"64 shards", firstsOf(tags("a"), 64, 1).Err, 0},
		{"0 workers", firstsOf(tags("a"), 1, 0).Err, 2}, {"65 workers", firstsOf(tags("a"), 1, 65).Err, 2}, {"64 workers", firstsOf(tags("a"), 1, 64).Err, 0},
		{"0 of both", firstsOf(tags("a"), 0, 0).Err, 2}, {"65 of both", firstsOf(tags("a"), 65, 65).Err, 2}, {"64 of both", firstsOf(tags("a"), 64, 64).Err, 0},
	} {
		if int(c.got) != c.want {
			t.Errorf("%s: error %d; want %d", c.what, c.got, c.want)
		}
	}
}

// P17.1: within the limits there is an empty filter, beyond them none.
func TestNewLimits(t *testing.T) {
	for count := 1; count <= 64; count++ {
		checkFilter(t, fmt.Sprintf("New(%d)", count), made(t, count), nil, tag(0), tag(0xff), tag('a'))
	}
	for _, count := range outside {
		if f, e := shards.New(count); f != nil || e != api.ErrArg {
			t.Errorf("New(%d) = %v, error %d", count, f, e)
		}
	}
}

// P17.4: whatever the tag and the number of shards within its limits, Shard is from 0 to shards - 1; and it is what the words say.
func TestShardIsInReach(t *testing.T) {
	r := rand.New(rand.NewSource(1701))
	list := [][16]byte{tag(0), tag(0xff), tag(0x80), tag(0x7f), tag(1), split(1<<63, 0), split(1<<63-1, 0), split(1<<63+1, 0), split(1<<32, 0), split(1<<32-1, 0), split(1<<31, 0), split(1<<64-2, 0)}
	for range 2000 {
		list = append(list, someTag(r))
	}
	for count := 1; count <= 64; count++ {
		for _, tag := range list {
			got := shards.Shard(tag, count)
			if got < 0 || got >= count || got != definedShard(tag, count) {
				t.Errorf("Shard(%x, %d) = %d; want %d", tag, count, got, definedShard(tag, count))
			}
		}
	}
}

// P17.1: 0, whatever the tag, where there can't be so many shards.
func TestShardOutside(t *testing.T) {
	r := rand.New(rand.NewSource(1702))
	for _, count := range outside {
		for _, tag := range [][16]byte{tag(0), tag(0xff), tag('a'), split(1, 0), someTag(r), someTag(r)} {
			if got := shards.Shard(tag, count); got != 0 {
				t.Errorf("Shard(%x, %d) = %d", tag, count, got)
			}
		}
	}
}

// P17.1: first bytes of noughts lie in the first shard; numbers one behind the other in shards one behind the other, round and round.
func TestShardCountsUp(t *testing.T) {
	for count := 1; count <= 64; count++ {
		for number := range 3 * count {
			if got := shards.Shard(split(uint64(number), 1<<64-1), count); got != number%count {
				t.Errorf("Shard of number %d with %d = %d; want %d", number, count, got, number%count)
			}
		}
		// 2^64 - 1 and what lies below it, from the remainder that the greatest one leaves.
		last := definedShard(tag(0xff), count)
		for down := range uint64(count) {
			want := (last - int(down) + count) % count
			if got := shards.Shard(split(1<<64-1-down, 0), count); got != want {
				t.Errorf("Shard of 2^64 - 1 - %d with %d = %d; want %d", down, count, got, want)
			}
		}
	}
}

// P17.1: each of the first eight bytes has its weight, 256 times that of the one behind it; the last eight have none.
func TestShardWeights(t *testing.T) {
	for count := 1; count <= 64; count++ {
		weight := 1 % count
		for place := 7; place >= 0; place-- {
			for value := range 256 {
				var one [16]byte
				one[place] = byte(value)
				if got := shards.Shard(one, count); got != value*weight%count {
					t.Errorf("Shard(%x, %d) = %d; want %d", one, count, got, value*weight%count)
				}
			}
			weight = weight * 256 % count
		}
	}
}

// P17.1: the last eight bytes have no say.
func TestShardGoesByTheHeadAlone(t *testing.T) {
	r := rand.New(rand.NewSource(1703))
	for range 300 {
		head := r.Uint64()
		for count := -1; count <= 66; count++ {
			want := shards.Shard(split(head, 0), count)
			for _, tail := range []uint64{1, 1 << 63, 1<<64 - 1, r.Uint64()} {
				if got := shards.Shard(split(head, tail), count); got != want {
					t.Errorf("Shard of %x with %d = %d; with noughts behind the head %d", split(head, tail), count, got, want)
				}
			}
		}
	}
}

// knownShards: what another program told of a tag and 2, 3, 7, 10, 31, 48, 61, 63 and 64 shards.
var knownShards = []struct {
	tag  string
	want [9]int
}{
	{"c8f671ba475593fe3802953ef5feccd6", [9]int{0, 0, 5, 2, 9, 30, 44, 12, 62}},
	{"bcc6bb562b1f8ed22cb90a4c93d9b9d4", [9]int{0, 2, 3, 0, 30, 2, 41, 59, 18}},
	{"0dff2fc134682cd07b0fa9604b7866a3", [9]int{0, 1, 4, 6, 21, 16, 4, 25, 16}},
	{"789539d59475c37b644f5ced3a634528", [9]int{1, 0, 3, 7, 23, 27, 58, 24, 59}},
	{"8cb1309e85cb639eb14723c945450c5b", [9]int{0, 0, 3, 6, 1, 30, 49, 24, 30}},
	{"fb3766bfaf0098e4de8a4173de2b83c0", [9]int{0, 2, 0, 4, 7, 20, 43, 56, 36}},
	{"3473c730aa034a0054ff6b112f1a414e", [9]int{0, 1, 6, 6, 21, 16, 33, 55, 0}},
	{"7c370705e27d334abb5f50ef7fb7cc1a", [9]int{0, 1, 2, 2, 10, 10, 38, 37, 10}},
	{"f7408186cf94864fac0074f64aea1355", [9]int{1, 2, 3, 7, 13, 47, 21, 38, 15}},
	{"1ca6d483363f11be59f86a05d935895b", [9]int{0, 0, 5, 6, 26, 30, 17, 33, 62}},
	{"5eb5fd9cadd9787e627a3ecd441b681f", [9]int{0, 0, 2, 0, 12, 30, 58, 30, 62}},
	{"12a13ef7a30f4f7aed8366dcacb9f6ba", [9]int{0, 0, 2, 2, 0, 42, 33, 30, 58}},
}

// P17.1: shards that another program told.
func TestKnownShards(t *testing.T) {
	for _, c := range knownShards {
		raw, _ := hex.DecodeString(c.tag)
		for i, count := range []int{2, 3, 7, 10, 31, 48, 61, 63, 64} {
			if got := shards.Shard([16]byte(raw), count); got != c.want[i] {
				t.Errorf("Shard(%s, %d) = %d; want %d", c.tag, count, got, c.want[i])
			}
		}
	}
}

func ExampleFilter() {
	f, _ := shards.New(8)
	f.Offer([16]byte{1}, 7)
	f.Offer([16]byte{1}, 3)
	f.Offer([16]byte{2}, -5)
	fmt.Println(f.Lowest([16]byte{1}))
	fmt.Println(f.Lowest([16]byte{9}))
	fmt.Println(f.Len())
	// Output:
	// 3 true
	// 0 false
	// 2
}

func ExampleFirsts() {
	fmt.Println(shards.Firsts([][16]byte{{1}, {2}, {1}, {3}, {2}}, 8, 4))
	// Output:
	// [true true false true false] churn: error 0
}
