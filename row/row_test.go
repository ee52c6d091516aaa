package row_test

import (
	"bytes"
	"fmt"
	"math"
	"slices"
	"testing"

	"churn/api"
	"churn/route"
	"churn/row"
)

// masters: so many master keys.
func masters(n int) (list [][]byte) {
	for i := range n {
		list = append(list, bytes.Repeat([]byte{byte(i)}, 32))
	}
	return list
}

// Keys answers route.Key's key of each master key, in their order, however many there are.
func TestKeys(t *testing.T) {
	for n := range 20 {
		for _, epoch := range []int64{0, 5, 1 << 62} {
			list := masters(n)
			keys, e := row.Keys(list, epoch)
			if e != api.OK || len(keys) != n {
				t.Fatalf("%d keys in epoch %d: %d, error %d", n, epoch, len(keys), e)
			}
			for i, key := range keys {
				if want, _ := route.Key(list[i], epoch); !bytes.Equal(key, want) {
					t.Errorf("key %d of %d in epoch %d: %x; want %x", i, n, epoch, key, want)
				}
			}
		}
	}
}

// Keys refuses a master key that is none, at whichever place, and an epoch that is none, if there is a key to be made of it.
func TestKeysRefused(t *testing.T) {
	for n := 1; n <= 10; n++ {
		for at := range n {
			for _, length := range []int{0, 31, 33} {
				list := masters(n)
				list[at] = make([]byte, length)
				if keys, e := row.Keys(list, 5); e != api.ErrArg || len(keys) != 0 {
					t.Errorf("key %d of %d has %d bytes: %d keys, error %d", at, n, length, len(keys), e)
				}
			}
		}
		for _, epoch := range []int64{-1, 1<<62 + 1, math.MinInt64, math.MaxInt64} {
			if keys, e := row.Keys(masters(n), epoch); e != api.ErrArg || len(keys) != 0 {
				t.Errorf("%d keys in epoch %d: %d keys, error %d", n, epoch, len(keys), e)
			}
		}
	}
	if keys, e := row.Keys(nil, -1); e != api.OK || len(keys) != 0 {
		t.Errorf("no keys: %d keys, error %d", len(keys), e)
	}
}

// Keys leaves what it is handed as it is, and answers new memory.
func TestKeysMemory(t *testing.T) {
	list := masters(3)
	before := fmt.Sprint(list)
	keys, _ := row.Keys(list, 5)
	other, _ := row.Keys(list, 5)
	for _, key := range other {
		copy(key, "scribbled")
	}
	if fmt.Sprint(list) != before || slices.EqualFunc(keys, other, bytes.Equal) {
		t.Error("what was handed in was changed, or two answers share memory")
	}
}

// Tape answers the tape at a place, and nothing behind the last one.
func TestTape(t *testing.T) {
	tapes := [][]byte{[]byte("first"), nil, []byte("third")}
	for i, want := range []string{"first", "", "third", "", ""} {
		if got := string(row.Tape(tapes, i)); got != want {
			t.Errorf("tape %d: %q; want %q", i, got, want)
		}
	}
	if len(row.Tape(nil, 0)) != 0 {
		t.Error("a tape of none")
	}
}
