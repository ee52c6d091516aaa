package order_test

import (
	"fmt"
	"strconv"
	"strings"
	"testing"

	"churn/api"
	"churn/order"
)

// inWords: what calls on a buffer of texts answer, in the words of the chapter's table.
func inWords(b *order.Buffer[string], calls string) string {
	var out []string
	for call := range strings.SplitSeq(calls, "; ") {
		var answer string
		words := strings.Fields(call)
		switch words[0] {
		case "Put":
			i, _ := strconv.Atoi(words[1])
			answer = map[api.Errno]string{0: "OK", 2: "ErrArg", 200: "ErrTwice"}[b.Put(i, words[2])]
		case "Next":
			x, is := b.Next()
			answer = x
			if !is {
				answer = "none" + x
			}
		case "At":
			answer = fmt.Sprint(b.At())
		case "Held":
			answer = fmt.Sprint(b.Held())
		}
		out = append(out, answer)
	}
	return strings.Join(out, "; ")
}

// P20.1: the chapter's examples.
func TestExamples(t *testing.T) {
	for _, c := range []struct{ calls, want string }{
		{"Put 1 b; Next; Put 0 a; Next; Next; Next; At; Held", "OK; none; OK; a; b; none; 2; 0"},
		{"Put 0 a; Put 0 b; Next; Put 0 c; Put -1 d; Put 5 e; Held", "OK; ErrTwice; a; ErrTwice; ErrArg; OK; 1"},
	} {
		if got := inWords(order.New[string](), c.calls); got != c.want {
			t.Errorf("%s: %s; want %s", c.calls, got, c.want)
		}
	}
}

// P20.1: the errors' numbers, as the document tells them.
func TestNumbersOfErrors(t *testing.T) {
	b := order.New[int]()
	for _, c := range []struct {
		what string
		got  api.Errno
		want int
	}{
		{"Put 3", b.Put(3, 1), 0}, {"Put 3 again", b.Put(3, 1), 200}, {"Put -1", b.Put(-1, 1), 2}, {"Put -1 again", b.Put(-1, 1), 2}, {"Put on a nil buffer", (*order.Buffer[int])(nil).Put(0, 1), 2},
	} {
		if int(c.got) != c.want {
			t.Errorf("%s: error %d; want %d", c.what, c.got, c.want)
		}
	}
}

// P20.1: a new buffer, of things of some kinds: nothing waits, and number 0 comes next.
func TestNew(t *testing.T) {
	checkNew[int](t)
	checkNew[string](t)
	checkNew[[]byte](t)
	checkNew[struct{}](t)
	checkNew[any](t)
	checkNew[func()](t)
}

func checkNew[T any](t *testing.T) {
	t.Helper()
	b := order.New[T]()
	if b == nil {
		t.Fatalf("%T: New is nil", b)
	}
	if _, is := b.Next(); is || b.At() != 0 || b.Held() != 0 {
		t.Errorf("%T: a new one: Next %v, At %d, Held %d", b, is, b.At(), b.Held())
	}
}

// P20.1: numbers below 0 are refused, whatever waits, and change nothing.
func TestPutBelowZero(t *testing.T) {
	got, want := order.New[int](), &words{}
	for round := range 4 {
		for _, i := range below {
			checkCalls(t, fmt.Sprintf("round %d", round), got, want, []call{{number: i}, {number: i}, {next: true}})
		}
		checkCalls(t, fmt.Sprintf("round %d", round), got, want, []call{{number: round}, {number: round + 7}})
	}
}

// P20.1: numbers that are far apart, up to the greatest int, are all taken, each once; all but the first ones wait.
func TestPutFarApart(t *testing.T) {
	forwards, backwards := order.New[int](), order.New[int]()
	for i := range far {
		x, y := far[i], far[len(far)-1-i]
		if e := forwards.Put(x, x); e != api.OK || forwards.Held() != i+1 || forwards.At() != 0 {
			t.Errorf("Put(%d): error %d, Held %d, At %d", x, e, forwards.Held(), forwards.At())
		}
		if e := backwards.Put(y, y); e != api.OK || backwards.Held() != i+1 || backwards.At() != 0 {
			t.Errorf("Put(%d): error %d, Held %d, At %d", y, e, backwards.Held(), backwards.At())
		}
	}
	for _, b := range []*order.Buffer[int]{forwards, backwards} {
		for _, x := range far {
			if e := b.Put(x, 9); e != api.ErrTwice || b.Held() != len(far) {
				t.Errorf("Put(%d) again: error %d, Held %d", x, e, b.Held())
			}
		}
		for want := range 2 {
			if x, is := b.Next(); !is || x != want || b.At() != want+1 || b.Held() != len(far)-want-1 {
				t.Errorf("Next = %d, %v, At %d, Held %d", x, is, b.At(), b.Held())
			}
		}
		for range 3 {
			if x, is := b.Next(); is || x != 0 || b.At() != 2 || b.Held() != len(far)-2 {
				t.Errorf("where only later ones wait: Next = %d, %v, At %d, Held %d", x, is, b.At(), b.Held())
			}
		}
		for _, x := range far {
			if e := b.Put(x, 9); e != api.ErrTwice || b.Held() != len(far)-2 {
				t.Errorf("Put(%d) behind two Nexts: error %d, Held %d", x, e, b.Held())
			}
		}
	}
}

// P20.1: a number that is put twice is refused, and the item that was put first is given out.
func TestPutTwice(t *testing.T) {
	for number := range 6 {
		b := order.New[string]()
		for i := range number {
			b.Put(i, "x")
		}
		if e := b.Put(number, "first"); e != api.OK {
			t.Errorf("Put(%d): error %d", number, e)
		}
		for range 3 {
			if e := b.Put(number, "later"); e != api.ErrTwice || b.Held() != number+1 || b.At() != 0 {
				t.Errorf("Put(%d) again, while it waits: error %d, Held %d, At %d", number, e, b.Held(), b.At())
			}
		}
		for range number {
			b.Next()
		}
		if x, is := b.Next(); !is || x != "first" {
			t.Errorf("Next = %q, %v", x, is)
		}
		for i := range number + 1 {
			if e := b.Put(i, "later"); e != api.ErrTwice || b.Held() != 0 || b.At() != number+1 {
				t.Errorf("Put(%d) behind its having been given out: error %d, Held %d, At %d", i, e, b.Held(), b.At())
			}
		}
		if x, is := b.Next(); is || x != "" {
			t.Errorf("behind all: Next = %q, %v", x, is)
		}
	}
}

// P20.1: Next where the next number waits, where only later ones do, and where none does.
func TestNext(t *testing.T) {
	for _, c := range []struct {
		script string
		want   said
	}{
		{"n", said{}}, {"0n", said{X: 1, Is: true, At: 1}}, {"1n", said{Held: 1}}, {"2345n", said{Held: 4}}, {">n", said{Held: 1}}, {"-n", said{}}, {"<n", said{}},
		{"10n", said{X: 2, Is: true, At: 1, Held: 1}}, {"10nn", said{X: 1, Is: true, At: 2}}, {"10nnn", said{At: 2}}, {"20nn", said{At: 1, Held: 1}}, {"20n1n", said{X: 4, Is: true, At: 2, Held: 1}},
		{"00n", said{X: 1, Is: true, At: 1}}, {"00nn", said{At: 1}}, {"0n0n", said{At: 1}}, {"0n1n0n", said{At: 2}}, {"n0n", said{X: 2, Is: true, At: 1}}, {"nnn0n1n", said{X: 6, Is: true, At: 2}},
	} {
		b := order.New[int]()
		list := calls(c.script)
		var got said
		for i, one := range list {
			got = do(b, one, i+1)
		}
		if got != c.want {
			t.Errorf("script %q: %+v; want %+v", c.script, got, c.want)
		}
	}
}

// P20.1: zero things are things like all others: they wait, are counted and given out, each once.
func TestZeroThings(t *testing.T) {
	b := order.New[int]()
	for i := range 50 {
		if e := b.Put(49-i, 0); e != api.OK || b.Held() != i+1 {
			t.Errorf("a 0 put: error %d, Held %d", e, b.Held())
		}
		if e := b.Put(49-i, 0); e != api.ErrTwice || b.Held() != i+1 {
			t.Errorf("a 0 put again: error %d, Held %d", e, b.Held())
		}
	}
	for i := range 50 {
		if x, is := b.Next(); x != 0 || !is || b.At() != i+1 || b.Held() != 49-i {
			t.Errorf("Next %d: %d, %v, At %d, Held %d", i, x, is, b.At(), b.Held())
		}
	}
	if x, is := b.Next(); x != 0 || is {
		t.Errorf("behind all: %d, %v", x, is)
	}
}

// checkNil: a nil buffer takes nothing and gives nothing, however often it is asked.
func checkNil[T any](t *testing.T, x T) {
	t.Helper()
	var none *order.Buffer[T]
	for range 3 {
		for _, list := range [][]int{below, far} {
			for _, i := range list {
				if e := none.Put(i, x); e != api.ErrArg {
					t.Errorf("%T: Put(%d): error %d", none, i, e)
				}
			}
		}
		if _, is := none.Next(); is || none.At() != 0 || none.Held() != 0 {
			t.Errorf("%T: Next: %v, At %d, Held %d", none, is, none.At(), none.Held())
		}
	}
}

// P20.1: a nil buffer asked everything, of things of each kind.
func TestNil(t *testing.T) {
	checkNil(t, 7)
	checkNil(t, "a")
	checkNil(t, []byte("a"))
	checkNil(t, [3]string{"a", "b", "c"})
	checkNil(t, struct{ A, B int }{1, 2})
	checkNil(t, any(7))
	checkNil(t, new(int))
	checkNil(t, func() {})
	for _, script := range scripts("01n-", 5) {
		checkScript(t, "a nil buffer", (*order.Buffer[int])(nil), &words{isNil: true}, script)
	}
}

// Rule 1: a Buffer that is neither nil nor made by New has no promise, but it ends no program.
func TestZeroBuffer(t *testing.T) {
	for _, script := range scripts("01n-", 4) {
		var zero order.Buffer[int]
		for i, c := range calls(script) {
			do(&zero, c, i)
		}
	}
}
