package server

import (
	"slices"
	"testing"
)

// P24.1: each engine's number stands for that engine, and the script is the line's alone. (That it is shows in no outcome, so it is looked at here.)
func TestEngineOf(t *testing.T) {
	script := []int{5, -3, 1}
	for number := -3; number < 9; number++ {
		want := number
		if number < 0 || number > 2 {
			want = -1
		}
		got := -2
		switch e := engineOf(number, script).(type) {
		case byMix:
			got = ByMix
		case byCrew:
			got = ByCrew
		case byLine:
			got = ByLine
			if !slices.Equal(e.script, script) {
				t.Errorf("the line's script is %v", e.script)
			}
		case byNone:
			got = -1
		}
		if got != want {
			t.Errorf("number %d stands for engine %d; want %d", number, got, want)
		}
	}
}
