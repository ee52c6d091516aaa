package desk

import (
	"fmt"
	"slices"
	"strings"
	"testing"

	"churn/api"
	"churn/server"
)

// given: what a word stands for, and the error by which it was given up.
func given[T any](of func(string) T, word string) (x T, e api.Errno) {
	defer func() { e, _ = recover().(api.Errno) }()
	return of(word), api.OK
}

// P26.1: each engine's word stands for that engine. (That it does shows in no answer, so it is looked at here.)
func TestEngineOf(t *testing.T) {
	for word, want := range map[string]int{"mix": server.ByMix, "crew": server.ByCrew, "line": server.ByLine} {
		if got, e := given(engineOf, word); got != want || e != api.OK {
			t.Errorf("%s stands for engine %d, error %d; want %d", word, got, e, want)
		}
	}
	for _, word := range []string{"", "-", "m", "Mix", "mix ", "mixcrew", "0", "1", "2", "by"} {
		if _, e := given(engineOf, word); e != api.ErrWord {
			t.Errorf("%q: error %d", word, e)
		}
	}
}

// P26.1: a script's numbers are handed on as they are, in their order. (Nor does that show in an answer.)
func TestScriptOf(t *testing.T) {
	for word, want := range map[string][]int{
		"-": nil, "0": {0}, "7": {7}, "007": {7}, "1,2": {1, 2}, "2,1,2": {2, 1, 2}, "2147483648,4294967296,9": {1 << 31, 1 << 32, 9}, "4611686018427387904,0,4611686018427387903": {1 << 62, 0, 1<<62 - 1},
		"0000000000000000012,0": {12, 0}, strings.Repeat("5,", 9999) + "6": append(slices.Repeat([]int{5}, 9999), 6),
	} {
		if got, e := given(scriptOf, word); !slices.Equal(got, want) || e != api.OK {
			t.Errorf("%.40s: %d numbers, error %d", word, len(got), e)
		}
	}
	for _, word := range []string{"", ",", "1,", ",1", "1,,1", "--", "1,-", "-1", "+1", "1 2", "4611686018427387905", "00000000000000000001", "1,x"} {
		if got, e := given(scriptOf, word); e != api.ErrNumber || got != nil {
			t.Errorf("%q: %v, error %d", word, got, e)
		}
	}
}

// P26.1: numbers and bytes, as far as they show nowhere else.
func TestWordsStandForThemselves(t *testing.T) {
	for n := int64(1); n <= greatest; n *= 2 {
		for _, x := range []int64{n - 1, n, n + 1} {
			for _, word := range []string{fmt.Sprint(x), fmt.Sprintf("%019d", x)} {
				if got, e := given(numberOf, word); (got != x || e != api.OK) && x <= greatest || x > greatest && e != api.ErrNumber {
					t.Errorf("%s: %d, error %d", word, got, e)
				}
			}
			if _, e := given(numberOf, fmt.Sprintf("%020d", x)); e != api.ErrNumber {
				t.Errorf("%d in twenty digits: error %d", x, e)
			}
		}
		if n == greatest {
			break
		}
	}
	for n := range 1 << 16 {
		p := []byte{byte(n >> 8), byte(n)}
		for _, word := range []string{fmt.Sprintf("%x", p), fmt.Sprintf("%X", p)} {
			if got, e := given(bytesOf, word); !slices.Equal(got, p) || e != api.OK || wordOf(p) != strings.ToLower(word) {
				t.Errorf("%s: %x, error %d", word, got, e)
			}
		}
		if _, e := given(bytesOf, string(p)); (e == api.OK) != isHex(p) {
			t.Errorf("%q: error %d", p, e)
		}
	}
	if got, e := given(bytesOf, "-"); len(got) != 0 || e != api.OK || wordOf(nil) != "-" || wordOf([]byte{}) != "-" {
		t.Errorf("no bytes: %x, error %d", got, e)
	}
}

func isHex(p []byte) bool {
	return !slices.ContainsFunc(p, func(b byte) bool { return !strings.ContainsRune("0123456789abcdefABCDEF", rune(b)) })
}
