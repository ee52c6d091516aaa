package order_test

import (
	"fmt"
	"math/rand"
	"testing"

	"churn/api"
	"churn/order"
)

// P20.1: all short scripts of puts and Nexts, looked at behind each call.
func TestShortScripts(t *testing.T) {
	few, many := 8, 6
	if testing.Short() {
		few, many = 6, 4
	}
	for _, list := range [][]string{scripts("012n", few), scripts("0123n->", many), scripts("0n", 12)} {
		for _, script := range list {
			checkScript(t, "int", order.New[int](), &words{}, script)
		}
	}
}

// P20.1: all orders of a few items, with none to two Nexts behind each put.
func TestAllOrdersWithNextsBetween(t *testing.T) {
	most := 5
	if testing.Short() {
		most = 4
	}
	for n := range most + 1 {
		ways := 1
		for range n {
			ways *= 3
		}
		for _, o := range orders(n) {
			for way := range ways {
				script := ""
				for _, number := range o {
					script += fmt.Sprint(number) + "nn"[:way%3]
					way /= 3
				}
				checkScript(t, "int", order.New[int](), &words{}, script)
			}
		}
	}
}

// checkGivesAll: whether a buffer gives out 0 to n - 1 in their order, each once, when they are put in an order, with some Nexts between. No other buffer is asked here: this is the promise's own sentence.
func checkGivesAll(t *testing.T, what string, o []int, nexts func() int) {
	t.Helper()
	b := order.New[int]()
	out, put := 0, 0
	ask := func() bool {
		x, is := b.Next()
		if is && x != -out {
			t.Fatalf("%s: Next %d gives the item %d", what, out, x)
		}
		if is {
			out++
		}
		if b.At() != out || b.Held() != put-out {
			t.Fatalf("%s: At %d, Held %d behind %d puts and %d given out", what, b.At(), b.Held(), put, out)
		}
		return is
	}
	for _, i := range o {
		if e := b.Put(i, -i); e != api.OK {
			t.Fatalf("%s: Put(%d): error %d", what, i, e)
		}
		put++
		for range nexts() {
			ask()
		}
	}
	for ask() {
	}
	if out != len(o) {
		t.Fatalf("%s: %d of %d items were given out", what, out, len(o))
	}
	for i := range o {
		if e := b.Put(i, 5); e != api.ErrTwice {
			t.Fatalf("%s: Put(%d) behind all: error %d", what, i, e)
		}
	}
}

// P20.1: all orders of up to seven items, Next asked behind each put, and at the end alone.
func TestAllOrdersGiveAll(t *testing.T) {
	for n := range 8 {
		for _, o := range orders(n) {
			for _, nexts := range []int{0, 1, 2} {
				checkGivesAll(t, fmt.Sprintf("order %v, %d Nexts behind each put", o, nexts), o, func() int { return nexts })
			}
		}
	}
}

// P20.1: drawn orders of many items, and such as fall, rise, or nearly do, with Nexts between.
func TestManyOrdersOfMany(t *testing.T) {
	r := rand.New(rand.NewSource(2010))
	for _, n := range []int{10, 63, 64, 65, 256, 1000, 20000} {
		var falling, rising, near []int
		for i := range n {
			falling, rising = append(falling, n-1-i), append(rising, i)
		}
		near = append(near, rising...)
		for i := range n - 1 {
			if j := i + r.Intn(min(8, n-i)); r.Intn(2) == 0 {
				near[i], near[j] = near[j], near[i]
			}
		}
		list := [][]int{falling, rising, near}
		for range 5 {
			list = append(list, r.Perm(n))
		}
		for at, o := range list {
			what := fmt.Sprintf("%d items, order %d", n, at)
			checkGivesAll(t, what+", Nexts at the end", o, func() int { return 0 })
			checkGivesAll(t, what+", a Next each", o, func() int { return 1 })
			checkGivesAll(t, what+", some Nexts", o, func() int { return r.Intn(4) })
		}
	}
}

// someCalls: calls without a rule, on numbers about those that come next, now and then on others.
func someCalls(r *rand.Rand, n int) (list []call) {
	for i := range n {
		switch v := r.Intn(100); {
		case v < 40:
			list = append(list, call{next: true})
		case v < 95:
			list = append(list, call{number: i/4 + r.Intn(12) - 6})
		case v < 97:
			list = append(list, call{number: below[r.Intn(len(below))]})
		case v < 98:
			list = append(list, call{number: far[r.Intn(len(far))]})
		default:
			list = append(list, call{number: r.Intn(n)})
		}
	}
	return list
}

// P20.1: long lists of calls without a rule.
func TestLongScripts(t *testing.T) {
	r := rand.New(rand.NewSource(2011))
	for round := range 200 {
		checkCalls(t, fmt.Sprintf("round %d", round), order.New[int](), &words{}, someCalls(r, 50+10*round))
	}
}

// P20.1: Nexts that give nothing, and puts that are refused, thrown in anywhere, change no other answer.
func TestRefusedCallsCountForNothing(t *testing.T) {
	r := rand.New(rand.NewSource(2012))
	for round := range 100 {
		all, some := order.New[int](), order.New[int]()
		for i, c := range someCalls(r, 400) {
			a := do(all, c, i+1)
			if c.next && !a.Is || a.Err != api.OK {
				if all.At() != some.At() || all.Held() != some.Held() {
					t.Fatalf("round %d: behind the refused call %d: At %d, Held %d; want %d, %d", round, i, all.At(), all.Held(), some.At(), some.Held())
				}
				continue
			}
			if b := do(some, c, i+1); a != b {
				t.Fatalf("round %d: call %d: %+v; without the refused ones %+v", round, i, a, b)
			}
		}
	}
}

// P20.1: all short scripts over three buffers side by side, the third of them nil: the digits and n call the first, the letters a, b (numbers 0 and 1) and N the second, z the third.
func TestShortScriptsSideBySide(t *testing.T) {
	most := 6
	if testing.Short() {
		most = 4
	}
	for _, script := range scripts("01nabNz", most) {
		got := [3]sorter{order.New[int](), order.New[int](), (*order.Buffer[int])(nil)}
		want := [3]sorter{&words{}, &words{}, &words{isNil: true}}
		for i, letter := range script {
			which, c := 0, call{number: int(letter - '0')}
			switch letter {
			case 'n':
				c = call{next: true}
			case 'a', 'b':
				which, c = 1, call{number: int(letter - 'a')}
			case 'N':
				which, c = 1, call{next: true}
			case 'z':
				which, c = 2, call{next: i%2 == 0}
			}
			if g, w := do(got[which], c, i+1), do(want[which], c, i+1); g != w {
				t.Fatalf("%s: call %d: %+v; want %+v", script, i, g, w)
			}
			for j := range got {
				if got[j].At() != want[j].At() || got[j].Held() != want[j].Held() {
					t.Fatalf("%s: behind call %d: buffer %d: At %d, Held %d; want %d, %d", script, i, j, got[j].At(), got[j].Held(), want[j].At(), want[j].Held())
				}
			}
		}
	}
}

// P20.1: many buffers side by side, of unlike types, with calls on them without a rule: each answers as if it were alone.
func TestManySideBySide(t *testing.T) {
	r := rand.New(rand.NewSource(2013))
	var got, want []sorter
	for range 12 {
		got = append(got, order.New[int](),
			dressed[string]{order.New[string](), textOf, ofText},
			dressed[[]byte]{order.New[[]byte](), bytesOf, ofBytes},
			dressed[*int]{order.New[*int](), pointerTo, ofPointer},
			(*order.Buffer[int])(nil))
		want = append(want, &words{}, &words{}, &words{}, &words{}, &words{isNil: true})
	}
	plain := someCalls(r, 60000)
	for i, c := range plain {
		which := r.Intn(len(got))
		// The numbers grow with the calls on one buffer, not with those on all.
		if !c.next && c.number > 60 && c.number < 60000 {
			c.number = max(-1, want[which].At()+c.number%13-4)
		}
		if g, w := do(got[which], c, i+1), do(want[which], c, i+1); g != w {
			t.Fatalf("call %d, %+v, buffer %d: %+v; want %+v", i, c, which, g, w)
		}
	}
	for i := range got {
		checkScript(t, fmt.Sprintf("buffer %d at last", i), got[i], want[i], "nnnnnnnnn")
		if got[i].At() < 20 && i%5 != 4 {
			t.Errorf("buffer %d has given out only %d items: these calls tell too little", i, got[i].At())
		}
	}
}
