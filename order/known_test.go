package order_test

import (
	"fmt"
	"strings"
	"testing"

	"churn/api"
	"churn/order"
)

// knownRuns: what another program told of calls by a short rule: each third call is a Next; call i of the others puts i under the number (a * i + b) modulo m, less off. A + is OK, an x ErrTwice, an a ErrArg, a number what was given out, a - that nothing was; behind the | stand At and Held at the end.
var knownRuns = []struct {
	a, b, m, off int
	want         string
}{
	{7, 3, 31, 1, "+ + - + a - + + - + + - + + 13 + + - + + - + + 22 + + 0 + + 9 + x 18 + x 27 + x 36 + x - + x - + x 45 + x - + x - + x 54 + x 1 | 10 19"},
	{5, 2, 17, 0, "+ + - + + 3 + + - + + 10 + + 0 + + 7 x + - x + - x + - x + - x + 31 x x 4 x x 28 x x 1 x x 25 x x 15 x x 22 x x 12 x x 19 x x 9 | 14 3"},
	{23, 40, 41, 2, "+ + - + + - + + - a + - + + - + + - + + - + + - + a - + + - + + - + + 34 + + 18 + + - x + 43 x + 27 x + - x + 52 x + 36 x + - x + 61 x + 4 a + - x + 70 x + 13 x + - x + 79 x x 22 x x 6 x x 31 | 14 25"},
	{1, 0, 100, 0, "+ + 0 + + 1 + + - + + - + + - + + - + + - + + - + + - + + - | 2 18"},
	{12, 5, 19, 1, "+ + - + + - + + 6 + + - + + - + + - + x - + x - + x - + x - + x - + x 33 a x 3 x x 30 x x 0 x x 27 x x 16 x x 24 x a 13 x x 21 | 10 8"},
	{3, 7, 10007, 5, "+ + - + + - + + - + + - + + - + + - + + | 0 14"},
}

// inSigns: what a call answered, as knownRuns tells it.
func inSigns(c call, a said) string {
	switch {
	case c.next && a.Is:
		return fmt.Sprint(a.X)
	case c.next:
		return "-"
	case a.Err == 200:
		return "x"
	case a.Err == 2:
		return "a"
	case a.Err == 0:
		return "+"
	}
	return "?"
}

// P20.1: calls of which another program told the answers.
func TestKnownRuns(t *testing.T) {
	for _, k := range knownRuns {
		b := order.New[int]()
		signs, _, _ := strings.Cut(k.want, " | ")
		var got []string
		for i := range strings.Fields(signs) {
			c := call{next: i%3 == 2, number: (k.a*i+k.b)%k.m - k.off}
			got = append(got, inSigns(c, do(b, c, i)))
		}
		if all := fmt.Sprintf("%s | %d %d", strings.Join(got, " "), b.At(), b.Held()); all != k.want {
			t.Errorf("(%d i + %d) modulo %d, less %d: %s; want %s", k.a, k.b, k.m, k.off, all, k.want)
		}
	}
}

// knownFirsts: what another program told of notes by a short rule: with v = (a * i + b) modulo m, note i is the error (v + i) modulo k at the number v - off. Behind each stands First: its number and its error.
var knownFirsts = []struct {
	a, b, m, off, k int
	want            string
}{
	{7, 93, 101, 5, 4, "88:1 88:1 88:1 88:1 88:1 88:1 88:1 88:1 88:1 88:1 88:1 88:1 88:1 88:1 88:1 88:1 88:1 5:3 5:3 5:3 5:3 5:3"},
	{61, 60, 64, 0, 3, "-1:0 57:1 54:2 54:2 48:1 45:2 45:2 39:1 36:2 36:2 30:1 27:2 27:2 21:1 18:2 18:2 12:1 9:2 9:2 3:1 0:2 0:2 0:2 0:2 0:2"},
	{1000, 900, 1009, 2, 5, "-1:0 889:2 880:4 871:1 862:3 862:3 844:2 835:4 826:1 817:3 817:3 799:2 790:4 781:1 772:3 772:3 754:2 745:4 736:1 727:3 727:3 709:2 700:4 691:1 682:3 682:3 664:2 655:4 646:1 637:3"},
	{26, 28, 29, 20, 3, "8:1 5:2 5:2 5:2 5:2 5:2 5:2 5:2 5:2 5:2 5:2 4:2 4:2 4:2 4:2 4:2 4:2 4:2 4:2 4:2 4:2 3:2 3:2 3:2 3:2 3:2 3:2 3:2 3:2 3:2 3:2 2:2 2:2"},
	{5, 11, 12, 4, 3, "7:2 0:2 0:2 0:2 0:2 0:2 0:2 0:2 0:2 0:2 0:2 0:2 0:2 0:2 0:2 0:2 0:2 0:2 0:2 0:2 0:2 0:2 0:2"},
	{12, 4, 12, 5, 2, "-1:0 -1:0 -1:0 -1:0 -1:0 -1:0"},
}

// P20.2: notes of which another program told the answers.
func TestKnownFirsts(t *testing.T) {
	for _, c := range knownFirsts {
		var f order.Fault
		var got []string
		for i := range strings.Fields(c.want) {
			v := (c.a*i + c.b) % c.m
			f.Note(v-c.off, api.Errno((v+i)%c.k))
			at, e := f.First()
			got = append(got, fmt.Sprintf("%d:%d", at, e))
		}
		if all := strings.Join(got, " "); all != c.want {
			t.Errorf("(%d i + %d) modulo %d, less %d: %s; want %s", c.a, c.b, c.m, c.off, all, c.want)
		}
	}
}
