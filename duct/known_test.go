package duct_test

import (
	"fmt"
	"strings"
	"testing"
)

// knownRuns: what another program told of scripts by a short rule: with v = (a * i * i + b * i) modulo m, call i is a put of i where v is below lo, a take where it is below hi, else a close. A + is a put that went through, a number what was taken, c a close, a - a false, an x ErrClosed.
var knownRuns = []struct {
	capacity, a, b, m, lo, hi int
	want                      string
}{
	{3, 7, 3, 101, 52, 100, "+ + + 0 + 1 2 4 - - + 10 + + + - - 12 c 13 x x x x 14 x x x x x x x x x x x x x x x"},
	{1, 5, 1, 64, 30, 63, "+ - - 0 + - 4 - + 8 - - + - 12 - + 16 - - - - + 22 + - - - 24 + 29 - - - - + 35 - + -"},
	{5, 11, 2, 97, 58, 97, "+ + + + 0 1 + 2 + + + 3 + - - 6 + - - - 8 + - - 9 + - - - 10 12 16 21 + 25 33 - + + + + + 37 + - - 38 + - - - - 39 40 41 + 43 47 55 - + + + + 60 + + - 61 + - - - 62 + - - 63 + -"},
	{2, 1, 0, 17, 9, 16, "+ + - 0 c x x 1 x x x x x x x x x x x x x x x x x x x x x x"},
	{0, 3, 1, 23, 12, 22, "- - - - - - c x x x x x x x x x x x x x x x x x x x x x x x"},
	{8, 13, 5, 211, 120, 210, "+ + + 0 + 1 + + + + + 2 + 4 + + - - - 6 + 7 + - - - - - 8 + - 9 10 12 + + 14 + 15 20 + + 22 29 + 34 + + + - - - 35 + 37 40 + + 41 44 + 46 + + 47 48 53 + + 56 + + - - - - 57 + 60 + - - - - 62 + 63 + - -"},
}

// inSigns: what a call answered, as knownRuns tells it.
func inSigns(letter byte, s said) string {
	switch {
	case s.Err != 0:
		return "x"
	case letter == 'c':
		return "c"
	case !s.Is:
		return "-"
	case letter == 'p':
		return "+"
	}
	return fmt.Sprint(s.X)
}

// P18.1: scripts of which another program told the answers.
func TestKnownRuns(t *testing.T) {
	for _, c := range knownRuns {
		d := made[int](t, c.capacity)
		var got []string
		for i := range strings.Fields(c.want) {
			letter := byte('c')
			switch v := (c.a*i*i + c.b*i) % c.m; {
			case v < c.lo:
				letter = 'p'
			case v < c.hi:
				letter = 't'
			}
			got = append(got, inSigns(letter, do(d, letter, i)))
		}
		if all := strings.Join(got, " "); all != c.want {
			t.Errorf("%d i i + %d i modulo %d, capacity %d: %s; want %s", c.a, c.b, c.m, c.capacity, all, c.want)
		}
	}
}
