package duct_test

import (
	"fmt"
	"strings"
	"testing"

	"churn/api"
	"churn/duct"
)

// inWords: what calls on a duct of texts answer, in the words of the chapter's table.
func inWords(d *duct.Duct[string], calls string) string {
	var out []string
	for call := range strings.SplitSeq(calls, "; ") {
		var answer string
		name, x, _ := strings.Cut(call, " ")
		switch name {
		case "Put":
			is, e := d.Put(x)
			answer = fmt.Sprintf("%v %d", is, e)
		case "Take":
			x, is, e := d.Take()
			answer = fmt.Sprintf("%q %v %d", x, is, e)
		case "Close":
			answer = fmt.Sprint(int(d.Close()))
		case "CanPut":
			answer = fmt.Sprint(d.CanPut())
		case "CanTake":
			answer = fmt.Sprint(d.CanTake())
		case "Len":
			answer = fmt.Sprint(d.Len())
		case "Cap":
			answer = fmt.Sprint(d.Cap())
		case "Closed":
			answer = fmt.Sprint(d.Closed())
		}
		out = append(out, answer)
	}
	return strings.Join(out, "; ")
}

// P18.1: the chapter's examples.
func TestExamples(t *testing.T) {
	for _, c := range []struct {
		d           *duct.Duct[string]
		calls, want string
	}{
		{made[string](t, 2), "Put a; Put b; Put c; Take; Put c; Len", `true 0; true 0; false 0; "a" true 0; true 0; 2`},
		{made[string](t, 1), "Put a; Close; Put b; Take; Take; Close", `true 0; 0; false 180; "a" true 0; "" false 180; 180`},
		{made[string](t, 0), "CanPut; Put a; Take", `false; false 0; "" false 0`},
		{nil, "Put a; Take; Close; Closed; CanPut; CanTake", `false 180; "" false 180; 180; true; false; false`},
	} {
		if got := inWords(c.d, c.calls); got != c.want {
			t.Errorf("%s: %s; want %s", c.calls, got, c.want)
		}
	}
	for _, capacity := range []int{-1, 1025} {
		if d, e := duct.New[string](capacity); d != nil || e != api.ErrArg {
			t.Errorf("New(%d) = %v, error %d", capacity, d, e)
		}
	}
}

// P18.1: the errors' numbers, as the document tells them.
func TestNumbersOfErrors(t *testing.T) {
	newError := func(capacity int) api.Errno {
		_, e := duct.New[int](capacity)
		return e
	}
	closed := made[int](t, 1)
	closed.Close()
	for _, c := range []struct {
		what string
		got  api.Errno
		want int
	}{
		{"New(-1)", newError(-1), 2}, {"New(0)", newError(0), 0}, {"New(1024)", newError(1024), 0}, {"New(1025)", newError(1025), 2},
		{"a put on a closed duct", do(closed, 'p', 1).Err, 180}, {"a take of it", do(closed, 't', 0).Err, 180}, {"a close of it", do(closed, 'c', 0).Err, 180},
		{"a put on a full duct", do(made[int](t, 0), 'p', 1).Err, 0}, {"a take of an empty one", do(made[int](t, 1), 't', 0).Err, 0}, {"a close", do(made[int](t, 0), 'c', 0).Err, 0},
	} {
		if int(c.got) != c.want {
			t.Errorf("%s: error %d; want %d", c.what, c.got, c.want)
		}
	}
}

// checkLimits: within the limits New makes an open duct that holds nothing, beyond them none, whatever its things are.
func checkLimits[T any](t *testing.T) {
	t.Helper()
	for capacity := 0; capacity <= 1024; capacity++ {
		d := made[T](t, capacity)
		if d.Len() != 0 || d.Cap() != capacity || d.Closed() || d.CanTake() || d.CanPut() != (capacity > 0) {
			t.Errorf("%T: New(%d): Len %d, Cap %d, Closed %v, CanTake %v, CanPut %v", d, capacity, d.Len(), d.Cap(), d.Closed(), d.CanTake(), d.CanPut())
		}
	}
	for _, capacity := range outside {
		if d, e := duct.New[T](capacity); d != nil || e != api.ErrArg {
			t.Errorf("%T: New(%d) = %v, error %d", d, capacity, d, e)
		}
	}
}

// P18.1: the limits of a capacity.
func TestNewLimits(t *testing.T) {
	checkLimits[int](t)
	checkLimits[string](t)
	checkLimits[[]byte](t)
	checkLimits[struct{}](t)
	checkLimits[[100]string](t)
	checkLimits[any](t)
	checkLimits[func()](t)
	if api.MaxCap != 1024 {
		t.Errorf("MaxCap = %d", api.MaxCap)
	}
}

// filled: a duct that holds the numbers from 1 on, closed or open.
func filled(t *testing.T, capacity, held int, closed bool) *duct.Duct[int] {
	t.Helper()
	d := made[int](t, capacity)
	putAll(t, d, upTo(1, held)...)
	if closed && d.Close() != api.OK {
		t.Fatalf("capacity %d, %d held: it can't be closed", capacity, held)
	}
	return d
}

// A state is what a duct may be found in: of a capacity, holding so many things, open or closed.
type state struct {
	capacity, held int
	closed         bool
}

// states: ducts of each capacity of fewCaps that hold nothing, one thing, nearly all that they can, and all, open and closed.
func states() (list []state) {
	for _, capacity := range fewCaps {
		last := -1
		for _, held := range []int{0, 1, 2, capacity / 2, capacity - 1, capacity} {
			if held > last && held <= capacity {
				list = append(list, state{capacity, held, false}, state{capacity, held, true})
				last = held
			}
		}
	}
	return list
}

// P18.1: a put where there is room, on a full duct, on a closed one, and on one that is full and closed.
func TestPut(t *testing.T) {
	for _, s := range states() {
		d := filled(t, s.capacity, s.held, s.closed)
		want, then := said{Is: true}, upTo(1, s.held+1)
		switch {
		case s.closed:
			want, then = said{Err: api.ErrClosed}, upTo(1, s.held)
		case s.held == s.capacity:
			want, then = said{}, upTo(1, s.held)
		}
		if d.CanPut() != want.Is {
			t.Errorf("%+v: CanPut = %v", s, d.CanPut())
		}
		if got := do(d, 'p', s.held+1); got != want {
			t.Errorf("%+v: Put: %+v; want %+v", s, got, want)
		}
		if d.Len() != len(then) || d.Cap() != s.capacity || d.Closed() != s.closed || d.CanTake() != (len(then) > 0) {
			t.Errorf("%+v: behind a put it tells %+v", s, tells(d))
		}
		checkTakes(t, fmt.Sprintf("%+v", s), d, then...)
	}
}

// P18.1: a take of a duct that holds something, of an empty one, of one that is closed and holds something, and of one that is closed and empty.
func TestTake(t *testing.T) {
	for _, s := range states() {
		d := filled(t, s.capacity, s.held, s.closed)
		want, then := said{X: 1, Is: true}, upTo(2, s.held)
		switch {
		case s.held == 0 && s.closed:
			want = said{Err: api.ErrClosed}
		case s.held == 0:
			want = said{}
		}
		if d.CanTake() != want.Is {
			t.Errorf("%+v: CanTake = %v", s, d.CanTake())
		}
		if got := do(d, 't', 0); got != want {
			t.Errorf("%+v: Take: %+v; want %+v", s, got, want)
		}
		if d.Len() != len(then) || d.Cap() != s.capacity || d.Closed() != s.closed || d.CanPut() != (!s.closed && len(then) < s.capacity) {
			t.Errorf("%+v: behind a take it tells %+v", s, tells(d))
		}
		checkTakes(t, fmt.Sprintf("%+v", s), d, then...)
	}
}

// P18.1: a close of an open duct, of one that holds something, and of one that is closed already; what it holds stays in.
func TestClose(t *testing.T) {
	for _, s := range states() {
		d := filled(t, s.capacity, s.held, s.closed)
		want := api.OK
		if s.closed {
			want = api.ErrClosed
		}
		if e := d.Close(); e != want {
			t.Errorf("%+v: Close: error %d; want %d", s, e, want)
		}
		if got, want := tells(d), (told{Closed: true, CanTake: s.held > 0, Len: s.held, Cap: s.capacity}); got != want {
			t.Errorf("%+v: behind a close it tells %+v; want %+v", s, got, want)
		}
		if e := d.Close(); e != api.ErrClosed {
			t.Errorf("%+v: a close more: error %d", s, e)
		}
		checkTakes(t, fmt.Sprintf("%+v", s), d, upTo(1, s.held)...)
		if e := d.Close(); e != api.ErrClosed || !d.Closed() {
			t.Errorf("%+v: a close of what is closed and empty: error %d", s, e)
		}
	}
}

// P18.1: a closed duct stays closed; takes make no room in it.
func TestClosedStaysClosed(t *testing.T) {
	for _, capacity := range fewCaps {
		d := filled(t, capacity, capacity, true)
		for i := range capacity + 2 {
			if got := do(d, 'p', 9); got != (said{Err: api.ErrClosed}) || d.CanPut() || !d.Closed() {
				t.Errorf("capacity %d, behind the close and %d takes: Put: %+v, it tells %+v", capacity, i, got, tells(d))
			}
			do(d, 't', 0)
		}
	}
}

// P18.1: to a duct of capacity 0 nothing can be put, open or closed.
func TestCapacityZero(t *testing.T) {
	d := made[int](t, 0)
	for _, closed := range []bool{false, true} {
		want := said{}
		if closed {
			want.Err = api.ErrClosed
			if e := d.Close(); e != api.OK {
				t.Errorf("Close: error %d", e)
			}
		}
		for i := range 5 {
			if got := do(d, 'p', i); got != want {
				t.Errorf("closed %v: Put: %+v", closed, got)
			}
			if got := do(d, 't', 0); got != want {
				t.Errorf("closed %v: Take: %+v", closed, got)
			}
			if got := tells(d); got != (told{Closed: closed}) {
				t.Errorf("closed %v: it tells %+v", closed, got)
			}
		}
	}
}

// checkNil: a nil duct is closed and empty, however often it is asked.
func checkNil[T any](t *testing.T, x T) {
	t.Helper()
	var none *duct.Duct[T]
	for range 3 {
		if is, e := none.Put(x); is || e != api.ErrClosed {
			t.Errorf("%T: Put = %v, error %d", none, is, e)
		}
		if _, is, e := none.Take(); is || e != api.ErrClosed {
			t.Errorf("%T: Take: %v, error %d", none, is, e)
		}
		if e := none.Close(); e != api.ErrClosed {
			t.Errorf("%T: Close: error %d", none, e)
		}
		if none.CanPut() || none.CanTake() || !none.Closed() || none.Len() != 0 || none.Cap() != 0 {
			t.Errorf("%T: CanPut %v, CanTake %v, Closed %v, Len %d, Cap %d", none, none.CanPut(), none.CanTake(), none.Closed(), none.Len(), none.Cap())
		}
	}
}

// P18.1: a nil duct asked everything, of things of each kind.
func TestNil(t *testing.T) {
	checkNil(t, 7)
	checkNil(t, "a")
	checkNil(t, []byte("a"))
	checkNil(t, [3]string{"a", "b", "c"})
	checkNil(t, struct{ A, B int }{1, 2})
	checkNil(t, any(7))
	checkNil(t, new(int))
	checkNil(t, func() {})
	for _, script := range scripts("ptc", 5) {
		checkScript(t, "a nil duct", (*duct.Duct[int])(nil), noDuct(), script)
	}
}

// Rule 1: a Duct that is neither nil nor made by New has no promise, but it ends no program.
func TestZeroDuct(t *testing.T) {
	for _, script := range scripts("ptc", 4) {
		var zero duct.Duct[int]
		run(&zero, script)
	}
}

// P18.1: zero things are things like all others: they are held, counted and taken.
func TestZeroThings(t *testing.T) {
	for _, capacity := range fewCaps {
		d := made[int](t, capacity)
		for i := range capacity {
			if got := do(d, 'p', 0); got != (said{Is: true}) || d.Len() != i+1 || !d.CanTake() {
				t.Errorf("capacity %d: put %d of a 0: %+v, Len %d", capacity, i, got, d.Len())
			}
		}
		if got := do(d, 'p', 0); got != (said{}) {
			t.Errorf("capacity %d: a 0 put on a full duct: %+v", capacity, got)
		}
		for i := range capacity {
			if got := do(d, 't', 0); got != (said{Is: true}) || d.Len() != capacity-i-1 {
				t.Errorf("capacity %d: take %d of a 0: %+v, Len %d", capacity, i, got, d.Len())
			}
		}
		checkTakes(t, fmt.Sprintf("capacity %d", capacity), d)
	}
}
