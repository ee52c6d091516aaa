package duct_test

import (
	"fmt"
	"math/rand"
	"slices"
	"strings"
	"testing"

	"churn/api"
	"churn/duct"
)

// P18.1: all short scripts of puts, takes and closes, at the small capacities, looked at behind each call.
func TestShortScripts(t *testing.T) {
	list := scripts("ptc", 9)
	if testing.Short() {
		list = scripts("ptc", 7)
	}
	for capacity := range 6 {
		for _, script := range list {
			checkScript(t, named(capacity, script), made[int](t, capacity), &words{capacity: capacity}, script)
		}
	}
}

// P18.1: all scripts of puts and takes that are somewhat longer, so that the things go round.
func TestShortRounds(t *testing.T) {
	list := scripts("pt", 13)
	if testing.Short() {
		list = scripts("pt", 10)
	}
	for capacity := 1; capacity <= 5; capacity++ {
		for _, script := range list {
			checkScript(t, named(capacity, script), made[int](t, capacity), &words{capacity: capacity}, script)
		}
	}
}

// P18.1: all ways to put some, take some of them, and fill up behind that, so that the room grows wherever the first thing stands; then the same once more, and all out.
func TestFillBehindTakes(t *testing.T) {
	for capacity := range 34 {
		for puts := 0; puts <= capacity; puts++ {
			for takes := 0; takes <= puts; takes++ {
				ahead := strings.Repeat("p", puts) + strings.Repeat("t", takes)
				fill := strings.Repeat("p", capacity+1-puts+takes)
				script := ahead + fill + strings.Repeat("t", takes) + fill + "c" + strings.Repeat("t", capacity+1)
				checkScript(t, named(capacity, script), made[int](t, capacity), &words{capacity: capacity}, script)
			}
		}
	}
}

// someScript: calls without a rule, of which about so many in a hundred are puts; now and then a run of one kind.
func someScript(r *rand.Rand, n, puts int) string {
	var b strings.Builder
	for b.Len() < n {
		letter, times := "t", 1
		if r.Intn(100) < puts {
			letter = "p"
		}
		if r.Intn(40) == 0 {
			times = 1 + r.Intn(200)
		}
		b.WriteString(strings.Repeat(letter, times))
	}
	return b.String()
}

// P18.1: long scripts without a rule, more puts than takes, as many, and fewer; at last a close, and all out.
func TestLongScripts(t *testing.T) {
	r := rand.New(rand.NewSource(1810))
	for _, capacity := range fewCaps {
		for _, puts := range []int{30, 50, 55, 70} {
			script := someScript(r, 4000, puts) + "cptcptc" + strings.Repeat("t", capacity+3) + "cpt"
			checkScript(t, named(capacity, "without a rule"), made[int](t, capacity), &words{capacity: capacity}, script)
		}
	}
}

// roundAbout: puts and takes in turns, by steps of the size given, so often that the duct's capacity is gone round many times. What was taken must be what was put, in its order, each once, and no more than the capacity may lie in the duct at any time. No other duct is asked here: this is the promise's own sentence.
func roundAbout(t *testing.T, capacity, putStep, takeStep, calls int) {
	t.Helper()
	d := made[int](t, capacity)
	var put, taken []int
	offered := 0
	for i := range calls {
		if i%(putStep+takeStep) < putStep {
			offered++
			is, e := d.Put(offered)
			if e != api.OK || is != (len(put)-len(taken) < capacity) {
				t.Fatalf("capacity %d, %d held: Put = %v, error %d", capacity, len(put)-len(taken), is, e)
			}
			if is {
				put = append(put, offered)
			}
		} else {
			x, is, e := d.Take()
			if e != api.OK || is != (len(put) > len(taken)) {
				t.Fatalf("capacity %d, %d held: Take = %d, %v, error %d", capacity, len(put)-len(taken), x, is, e)
			}
			if is {
				taken = append(taken, x)
			}
		}
		if d.Len() != len(put)-len(taken) || d.Len() > capacity {
			t.Fatalf("capacity %d: Len = %d behind %d puts and %d takes", capacity, d.Len(), len(put), len(taken))
		}
	}
	for x, is, _ := d.Take(); is; x, is, _ = d.Take() {
		taken = append(taken, x)
	}
	if !slices.Equal(put, taken) {
		t.Errorf("capacity %d, steps %d and %d: what was taken isn't what was put", capacity, putStep, takeStep)
	}
}

// P18.1: what is taken is what was put, each once, in its order, round and round.
func TestRoundAndRound(t *testing.T) {
	for _, capacity := range fewCaps[1:] {
		for _, steps := range [][2]int{{1, 1}, {2, 1}, {1, 2}, {3, 2}, {2, 3}, {capacity, capacity}, {capacity + 1, capacity}, {capacity, capacity + 1}, {capacity, 1 + capacity/2}, {1 + capacity/2, capacity}, {capacity + 5, capacity + 7}} {
			roundAbout(t, capacity, steps[0], steps[1], 12*capacity+2000)
		}
	}
	roundAbout(t, 3, 2, 1, 300000)
	roundAbout(t, 1024, 700, 650, 300000)
}

// P18.1: every capacity, filled up to it and one over, three times.
func TestEveryCapacity(t *testing.T) {
	for capacity := 0; capacity <= 1024; capacity++ {
		d := made[int](t, capacity)
		for turn := range 3 {
			putAll(t, d, upTo(turn, turn+capacity-1)...)
			if got := do(d, 'p', -1); got != (said{}) || d.CanPut() || d.Len() != capacity {
				t.Errorf("capacity %d: a put more: %+v, it tells %+v", capacity, got, tells(d))
			}
			checkTakes(t, named(capacity, "filled"), d, upTo(turn, turn+capacity-1)...)
			// One step further round, so that the next turn begins elsewhere.
			if capacity > 0 {
				checkScript(t, named(capacity, "pt"), d, &words{capacity: capacity}, "pt")
			}
		}
	}
}

// P18.2: a duct that gets all calls of a script, and one that gets those alone that weren't refused, answer alike from call to call, and hold the same at last.
func TestRefusedCallsCountForNothing(t *testing.T) {
	r := rand.New(rand.NewSource(1820))
	list := scripts("ptc", 8)
	for range 60 {
		list = append(list, someScript(r, 300, 20+r.Intn(60))+"ctp"+someScript(r, 20, 50))
	}
	for _, capacity := range []int{0, 1, 2, 3, 10} {
		for _, script := range list {
			all, some := made[int](t, capacity), made[int](t, capacity)
			for i := range len(script) {
				s := do(all, script[i], i+1)
				if s.refusal(script[i]) {
					if got := tells(all); got != tells(some) {
						t.Fatalf("%s: behind the refused call %d it tells %+v; want %+v", named(capacity, script), i, got, tells(some))
					}
					continue
				}
				if got := do(some, script[i], i+1); got != s || tells(some) != tells(all) {
					t.Fatalf("%s: call %d: %+v; without the refused ones %+v", named(capacity, script), i, s, got)
				}
			}
			checkAlike(t, named(capacity, script), all, some)
		}
	}
}

// checkAlike: whether two ducts hold the same and are closed alike; it empties them.
func checkAlike(t *testing.T, what string, a, b queue) {
	t.Helper()
	for range a.Cap() + 1 {
		if x, y := do(a, 't', 0), do(b, 't', 0); x != y || tells(a) != tells(b) {
			t.Fatalf("%s: one gives out %+v, the other %+v", what, x, y)
		}
	}
}

// P18.2: calls that are refused, thrown in wherever they would be, leave every later answer as it is without them.
func TestRefusedCallsThrownIn(t *testing.T) {
	for _, capacity := range []int{0, 1, 2, 3, 4} {
		for _, script := range scripts("ptc", 7) {
			plain := run(made[int](t, capacity), script)
			d := made[int](t, capacity)
			for i := range len(script) {
				throwRefused(t, d)
				if got := do(d, script[i], i+1); got != plain[i].Said {
					t.Fatalf("%s: call %d: %+v; without the refused ones %+v", named(capacity, script), i, got, plain[i].Said)
				}
				throwRefused(t, d)
				if got := tells(d); got != plain[i].Told {
					t.Fatalf("%s: behind call %d it tells %+v; without the refused ones %+v", named(capacity, script), i, got, plain[i].Told)
				}
			}
		}
	}
}

// throwRefused: every call that the duct must refuse as it stands, some of them more than once.
func throwRefused(t *testing.T, d *duct.Duct[int]) {
	t.Helper()
	for _, letter := range "pptcptc" {
		is := letter == 'p' && !d.CanPut() || letter == 't' && !d.CanTake() || letter == 'c' && d.Closed()
		if is && !do(d, byte(letter), -99).refusal(byte(letter)) {
			t.Fatalf("a call %c is not refused where %+v", letter, tells(d))
		}
	}
	if d, e := duct.New[int](-1); d != nil || e != api.ErrArg {
		t.Fatalf("New(-1) = %v, error %d", d, e)
	}
}

// Rules 1 and 6: asking alone changes nothing, however often.
func TestAskingChangesNothing(t *testing.T) {
	for _, script := range scripts("ptc", 6) {
		d, asked := made[int](t, 2), made[int](t, 2)
		for i := range len(script) {
			before := tells(asked)
			for range 5 {
				if again := tells(asked); again != before {
					t.Fatalf("%q: it tells %+v behind %+v", script, again, before)
				}
			}
			if x, y := do(d, script[i], i+1), do(asked, script[i], i+1); x != y {
				t.Fatalf("%q: call %d: %+v; asked between the calls %+v", script, i, x, y)
			}
		}
		checkAlike(t, script, d, asked)
	}
}

// P18.1: all short scripts over three ducts side by side, the third of them nil: the small letters call the first, the great ones the second, 1 the third.
func TestShortScriptsSideBySide(t *testing.T) {
	most := 6
	if testing.Short() {
		most = 4
	}
	for _, script := range scripts("ptcPTC1", most) {
		got := [3]queue{made[int](t, 2), made[int](t, 1), (*duct.Duct[int])(nil)}
		want := [3]queue{&words{capacity: 2}, &words{capacity: 1}, noDuct()}
		for i := range len(script) {
			which, letter := 0, script[i]
			switch {
			case letter == '1':
				which, letter = 2, "ptc"[i%3]
			case letter < 'a':
				which, letter = 1, letter+'a'-'A'
			}
			if x, y := do(got[which], letter, i+1), do(want[which], letter, i+1); x != y {
				t.Fatalf("%s: call %d: %+v; want %+v", script, i, x, y)
			}
			for j := range got {
				if x, y := tells(got[j]), tells(want[j]); x != y {
					t.Fatalf("%s: behind call %d duct %d tells %+v; want %+v", script, i, j, x, y)
				}
			}
		}
	}
}

// P18.1: many ducts side by side, with calls on them without a rule: each answers as if it were alone.
func TestManySideBySide(t *testing.T) {
	r := rand.New(rand.NewSource(1811))
	var got, want []queue
	for range 3 {
		for _, capacity := range fewCaps {
			got, want = append(got, made[int](t, capacity)), append(want, &words{capacity: capacity})
		}
	}
	got, want = append(got, (*duct.Duct[int])(nil)), append(want, noDuct())
	for i := range 100000 {
		which, letter := r.Intn(len(got)), "pppptttttc"[r.Intn(9)]
		if r.Intn(3000) == 0 {
			letter = 'c'
		}
		if x, y := do(got[which], letter, i), do(want[which], letter, i); x != y || tells(got[which]) != tells(want[which]) {
			t.Fatalf("call %d, duct %d: %+v, it tells %+v; want %+v, %+v", i, which, x, tells(got[which]), y, tells(want[which]))
		}
	}
	for i := range got {
		if tells(got[i]) != tells(want[i]) {
			t.Errorf("duct %d tells %+v; want %+v", i, tells(got[i]), tells(want[i]))
		}
		checkAlike(t, fmt.Sprintf("duct %d", i), got[i], want[i])
	}
}

// P18.1: things that go from duct to duct, along a row of them, come out at its end as they went in, each once.
func TestRowOfDucts(t *testing.T) {
	r := rand.New(rand.NewSource(1812))
	var row []*duct.Duct[int]
	for _, capacity := range []int{3, 1, 7, 2, 1024, 1} {
		row = append(row, made[int](t, capacity))
	}
	const things = 20000
	var out []int
	for in := 0; len(out) < things; {
		i := r.Intn(len(row) + 1)
		switch {
		case i == 0 && in < things:
			if is, _ := row[0].Put(in); is {
				in++
			}
		case i == len(row):
			if x, is, _ := row[i-1].Take(); is {
				out = append(out, x)
			}
		case i > 0 && row[i].CanPut():
			if x, is, _ := row[i-1].Take(); is {
				putAll(t, row[i], x)
			}
		}
	}
	if !slices.Equal(out, upTo(0, things-1)) {
		t.Errorf("what came out of the row isn't what went in")
	}
}
