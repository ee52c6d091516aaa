package draw_test

import (
	"bytes"
	"fmt"
	"math"
	"reflect"
	"slices"
	"testing"

	"churn/api"
	"churn/draw"
	"churn/tape"
)

// some: n bytes, no two neighbours alike, other ones for another seed.
func some(n int, seed byte) []byte {
	p := make([]byte, n)
	for i := range p {
		p[i] = byte(i*31+i/256*7) ^ byte(int(seed)*37)
	}
	return p
}

func join[T any](pieces ...[]T) []T { return slices.Concat(pieces...) }

// times: a list of n that are all v.
func times[T any](n int, v T) []T { return slices.Repeat([]T{v}, n) }

// withRoom: list in the midst of others, which are its spare room too; and all of them.
func withRoom[T any](list []T, other T) (inside, all []T) {
	all = join(times(5, other), list, times(40, other))
	return all[5 : 5+len(list)], all
}

// brief: a list for a failure's text, cut short.
func brief[T any](list []T) string {
	if len(list) > 40 {
		return fmt.Sprintf("%v .. (%d)", list[:40], len(list))
	}
	return fmt.Sprint(list)
}

// noBounds: numbers about the bounds and far from them that are none.
var noBounds = []int{0, -1, -2, -3, -128, -255, -256, -257, 257, 258, 259, 511, 512, 513, 65536,
	1 << 31, 1 << 32, 1<<32 + 1, 1<<32 + 3, -1 << 31, -1 << 32, 1 - 1<<32, math.MaxInt - 1, math.MaxInt, math.MinInt, math.MinInt + 1}

// top: the greatest multiple of the bound b that is at most 256, by steps of b.
func top(b int) int {
	t := 0
	for t+b <= 256 {
		t += b
	}
	return t
}

// A drawn is the chapter's draw: what it tells, how many bytes it read, and the place of the one that was taken (-1: none was).
type drawn struct {
	Value, Read, Taken int
	Err                api.Errno
}

// definedDraw: the chapter's words for a draw below b from these bytes.
func definedDraw(p []byte, b int) drawn {
	switch {
	case b < 1 || b > 256:
		return drawn{Taken: -1, Err: api.ErrArg}
	case b == 1:
		return drawn{Taken: -1}
	}
	for at, v := range p {
		if int(v) < top(b) {
			rest := int(v)
			for rest >= b {
				rest -= b
			}
			return drawn{Value: rest, Read: at + 1, Taken: at}
		}
	}
	return drawn{Taken: -1, Err: api.ErrTape}
}

// drawing: what All must answer; and of each draw the place of the byte that it takes.
type drawing struct {
	Draws []int
	Read  int
	Err   api.Errno
	Taken []int
}

func (d drawing) String() string {
	return fmt.Sprintf("%s, %d bytes, error %d", brief(d.Draws), d.Read, d.Err)
}

func (d drawing) same(other drawing) bool {
	return slices.Equal(d.Draws, other.Draws) && d.Read == other.Read && d.Err == other.Err
}

// definedAll: the chapter's words, in their order.
func definedAll(p []byte, bounds []int) drawing {
	for _, b := range bounds {
		if b < 1 || b > 256 {
			return drawing{Err: api.ErrArg}
		}
	}
	var d drawing
	for _, b := range bounds {
		one := definedDraw(p[d.Read:], b)
		if one.Err != api.OK {
			return drawing{Err: one.Err}
		}
		if one.Taken >= 0 {
			one.Taken += d.Read
		}
		d.Draws = append(d.Draws, one.Value)
		d.Taken = append(d.Taken, one.Taken)
		d.Read += one.Read
	}
	return d
}

// turning: what Turn must answer.
type turning struct {
	Tape []byte
	Err  api.Errno
}

func (a turning) String() string { return fmt.Sprintf("%s, error %d", brief(a.Tape), a.Err) }

func (a turning) same(other turning) bool {
	return bytes.Equal(a.Tape, other.Tape) && a.Err == other.Err
}

// definedTurn: the chapter's words, in their order.
func definedTurn(p []byte, bounds, want []int) turning {
	for _, b := range bounds {
		if b < 1 || b > 256 {
			return turning{Err: api.ErrArg}
		}
	}
	if len(want) != len(bounds) {
		return turning{Err: api.ErrArg}
	}
	for i, w := range want {
		if w < 0 || w >= bounds[i] {
			return turning{Err: api.ErrArg}
		}
	}
	d := definedAll(p, bounds)
	if d.Err != api.OK {
		return turning{Err: d.Err}
	}
	q := bytes.Clone(p)
	for i, at := range d.Taken {
		if at >= 0 {
			q[at] = byte(int(p[at]) - d.Draws[i] + want[i])
		}
	}
	return turning{q, api.OK}
}

func all(p []byte, bounds []int) drawing {
	draws, read, e := draw.All(p, bounds)
	return drawing{Draws: draws, Read: read, Err: e}
}

func turn(p []byte, bounds, want []int) turning {
	q, e := draw.Turn(p, bounds, want)
	return turning{q, e}
}

func checkAll(t *testing.T, what string, p []byte, bounds []int) drawing {
	t.Helper()
	got, want := all(p, bounds), definedAll(p, bounds)
	if !got.same(want) {
		t.Errorf("%s: All(%s, %s) = %v; want %v", what, brief(p), brief(bounds), got, want)
	}
	return want
}

func checkTurn(t *testing.T, what string, p []byte, bounds, wanted []int) turning {
	t.Helper()
	got, want := turn(p, bounds, wanted), definedTurn(p, bounds, wanted)
	if !got.same(want) {
		t.Errorf("%s: Turn(%s, %s, %s) = %v; want %v", what, brief(p), brief(bounds), brief(wanted), got, want)
	}
	return want
}

// checkTape: a tape's counts, and all that it has left.
func checkTape(t *testing.T, what string, got tape.Tape, left []byte, used int) {
	t.Helper()
	rest, _, e := got.Take(got.Left())
	if !bytes.Equal(rest, left) || e != api.OK || got.Used() != used {
		t.Errorf("%s: left %s, Used %d, error %d; want %s, %d", what, brief(rest), got.Used(), e, brief(left), used)
	}
}

// checkBelow: one Below held against the chapter's words, of the tape of which so many bytes have been read; the tape that it was asked of stays.
func checkBelow(t *testing.T, p []byte, used, b int) {
	t.Helper()
	_, from, e := tape.New(p).Take(used)
	if e != api.OK {
		t.Fatalf("Take(%d) of %d bytes: error %d", used, len(p), e)
	}
	what := fmt.Sprintf("Below of %s, %d read, %d", brief(p), used, b)
	v, behind, e := draw.Below(from, b)
	want := definedDraw(p[used:], b)
	if v != want.Value || e != want.Err {
		t.Errorf("%s: %d, error %d; want %d, error %d", what, v, e, want.Value, want.Err)
	}
	checkTape(t, what+": the tape itself", from, p[used:], used)
	if want.Err != api.OK {
		checkZero(t, what, behind)
		return
	}
	checkTape(t, what+": the tape behind", behind, p[used+want.Read:], used+want.Read)
}

// checkZero: the zero Tape, to the eye and by its answers.
func checkZero(t *testing.T, what string, z tape.Tape) {
	t.Helper()
	if !reflect.ValueOf(z).IsZero() || z.Left() != 0 || z.Used() != 0 {
		t.Errorf("%s: not the zero Tape beside an error: Left %d, Used %d", what, z.Left(), z.Used())
	}
}
