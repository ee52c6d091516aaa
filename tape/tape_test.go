package tape_test

import (
	"bytes"
	"fmt"
	"math"
	"math/rand"
	"reflect"
	"sync"
	"testing"

	"churn/api"
	"churn/tape"
)

// lengths of tapes: no byte, one, some, about a byte's and a word's end, and many.
var lengths = []int{0, 1, 2, 3, 17, 18, 19, 63, 64, 65, 255, 256, 257, 1000}

// P9.1: the chapter's examples.
func TestExamples(t *testing.T) {
	list, behind, e := tape.New([]byte{1, 2, 3}).Take(2)
	if !bytes.Equal(list, []byte{1, 2}) || behind.Left() != 1 || behind.Used() != 2 || e != api.OK {
		t.Errorf("Take(2) of three: %v, Left %d, Used %d, error %d", list, behind.Left(), behind.Used(), e)
	}
	list, behind, e = tape.New([]byte{1}).Take(2)
	if len(list) != 0 || e != api.ErrTape {
		t.Errorf("Take(2) of one: %v, error %d", list, e)
	}
	checkZero(t, "Take(2) of one", behind)
	list, behind, e = tape.New(nil).Take(0)
	if len(list) != 0 || behind.Left() != 0 || behind.Used() != 0 || e != api.OK {
		t.Errorf("Take(0) of none: %v, Left %d, Used %d, error %d", list, behind.Left(), behind.Used(), e)
	}
	next, behind, e := tape.New(nil).Byte()
	if next != 0 || e != api.ErrTape {
		t.Errorf("Byte of none: %d, error %d", next, e)
	}
	checkZero(t, "Byte of none", behind)
}

// P9.1: the errors' numbers, as the chapter tells them.
func TestNumbersOfErrors(t *testing.T) {
	if _, _, e := tape.New([]byte{1}).Take(-1); int(e) != 2 {
		t.Errorf("Take(-1): error %d; want 2", e)
	}
	if _, _, e := tape.New([]byte{1}).Take(2); int(e) != 3 {
		t.Errorf("Take of more than is left: error %d; want 3", e)
	}
	if _, _, e := tape.New(nil).Byte(); int(e) != 3 {
		t.Errorf("Byte of none: error %d; want 3", e)
	}
	if _, e := tape.Split(make([]byte, 18), 0); int(e) != 2 {
		t.Errorf("Split in no chunks: error %d; want 2", e)
	}
	if _, e := tape.Split(make([]byte, 17), 1); int(e) != 3 {
		t.Errorf("Split of 17 bytes: error %d; want 3", e)
	}
}

// numbers: what may be asked of a tape with so many bytes left: none, all, one more, and numbers far outside.
func numbers(left int) []int {
	return []int{0, 1, 2, left - 1, left, left + 1, left + 2, 2*left + 1, 1 << 31, 1 << 32, 1<<32 + 1, math.MaxInt - 1, math.MaxInt,
		-1, -2, -left, -left - 1, -1 << 31, -1 << 32, math.MinInt + 1, math.MinInt}
}

// checkAll: a tape asked each question.
func checkAll(t *testing.T, what string, a tape.Tape, p place) {
	t.Helper()
	checkTape(t, what, a, p)
	checkByte(t, what, a, p)
	for _, n := range numbers(p.left()) {
		checkTake(t, what, a, p, n)
	}
	checkTape(t, what+", at the end", a, p)
}

// P9.1: the zero Tape is the tape of no bytes, and so are those of nil and of an empty list, with room or without.
func TestTapeOfNoBytes(t *testing.T) {
	var zero tape.Tape
	none := place{}
	checkZero(t, "the zero Tape", zero)
	checkAll(t, "the zero Tape", zero, none)
	checkAll(t, "New(nil)", tape.New(nil), none)
	checkAll(t, "New of an empty list", tape.New([]byte{}), none)
	checkAll(t, "New of an empty list with room", tape.New(some(9, 1)[3:3]), none)
	for name, a := range map[string]tape.Tape{"the zero Tape": zero, "New(nil)": tape.New(nil)} {
		_, again, _ := a.Take(0)
		checkAll(t, name+", behind Take(0)", again, none)
	}
}

// P9.1: each byte there is, alone on its tape; the byte 0 of a tape isn't the 0 beside an error.
func TestTapeOfOneByte(t *testing.T) {
	for b := range 256 {
		a, p := tape.New([]byte{byte(b)}), place{[]byte{byte(b)}, 0}
		checkAll(t, fmt.Sprint("byte ", b), a, p)
		end, want := checkByte(t, fmt.Sprint("byte ", b), a, p)
		checkAll(t, fmt.Sprintf("byte %d, read", b), end, want.Tape)
	}
}

// P9.1: a tape that is read up is not the zero Tape: what has been read stays read.
func TestReadUp(t *testing.T) {
	for _, n := range lengths[1:] {
		_, end, e := tape.New(some(n, 2)).Take(n)
		if e != api.OK || end.Left() != 0 || end.Used() != n {
			t.Errorf("%d bytes, read up: Left %d, Used %d, error %d", n, end.Left(), end.Used(), e)
		}
		for range 3 {
			b, z, e := end.Byte()
			if b != 0 || e != api.ErrTape {
				t.Errorf("%d bytes, read up, Byte: %d, error %d", n, b, e)
			}
			checkZero(t, "Byte of what is read up", z)
			list, z, e := end.Take(1)
			if len(list) != 0 || e != api.ErrTape {
				t.Errorf("%d bytes, read up, Take(1): %v, error %d", n, list, e)
			}
			checkZero(t, "Take of what is read up", z)
		}
	}
}

// P9.1: from each place of a tape, each question, with each number of bytes that it has and more.
func TestEveryPlace(t *testing.T) {
	for _, n := range []int{1, 2, 3, 5, 18, 40, 65} {
		of := some(n, 3)
		for used := range n + 1 {
			_, a, e := tape.New(of).Take(used)
			if e != api.OK {
				t.Fatalf("Take(%d) of %d: error %d", used, n, e)
			}
			p := place{of, used}
			what := fmt.Sprintf("%d of %d read", used, n)
			checkAll(t, what, a, p)
			for k := range n + 3 {
				behind, want := checkTake(t, what, a, p, k)
				if want.Err == api.OK {
					checkTape(t, fmt.Sprintf("%s, %d more", what, k), behind, want.Tape)
				}
			}
		}
	}
}

// P9.1: long tapes.
func TestLongTapes(t *testing.T) {
	for _, n := range []int{65535, 65536, 65537, 1 << 20} {
		of := some(n, 4)
		a, p := tape.New(of), place{of, 0}
		for _, step := range []int{0, 1, 255, 256, 4096, n / 2} {
			checkTake(t, fmt.Sprint(n, " bytes"), a, p, step)
			behind, want := checkTake(t, fmt.Sprint(n, " bytes"), a, p, n-step)
			checkTape(t, fmt.Sprintf("%d bytes but %d", n, step), behind, want.Tape)
		}
		checkTake(t, fmt.Sprint(n, " bytes"), a, p, n+1)
	}
}

// shelf: tapes that were made, and what each must be.
type shelf struct {
	tapes  []tape.Tape
	places []place
}

func (s *shelf) add(a tape.Tape, p place) {
	s.tapes = append(s.tapes, a)
	s.places = append(s.places, p)
}

// keep: the tape that was read off, the zero Tape too.
func (s *shelf) keep(a tape.Tape, r read) { s.add(a, r.Tape) }

func (s *shelf) check(t *testing.T, what string) {
	t.Helper()
	for i := range s.tapes {
		checkTape(t, fmt.Sprintf("%s, tape %d", what, i), s.tapes[i], s.places[i])
	}
}

// step: one step without a rule, held against the words: a new tape, or one of those made so far read or asked.
func (s *shelf) step(t *testing.T, r *rand.Rand, what string) {
	if len(s.tapes) == 0 || r.Intn(12) == 0 {
		of := make([]byte, r.Intn(30))
		r.Read(of)
		s.add(tape.New(of), place{bytes.Clone(of), 0})
		clear(of)
		return
	}
	i := r.Intn(len(s.tapes))
	a, p := s.tapes[i], s.places[i]
	what = fmt.Sprintf("%s, tape %d", what, i)
	switch r.Intn(4) {
	case 0:
		s.keep(checkByte(t, what, a, p))
	case 1:
		s.keep(checkTake(t, what, a, p, r.Intn(p.left()+1)))
	case 2:
		s.keep(checkTake(t, what, a, p, r.Intn(p.left()+10)-4))
	case 3:
		checkCounts(t, what, a, p)
	}
}

// P9.1: lists of steps without a rule, over many tapes at once; at the end each of them is still what it was.
func TestAnySteps(t *testing.T) {
	r := rand.New(rand.NewSource(91))
	for run := range 150 {
		var s shelf
		for step := range 150 {
			s.step(t, r, fmt.Sprintf("run %d, step %d", run, step))
		}
		s.check(t, fmt.Sprintf("run %d, at the end", run))
	}
}

// P9.1: every list of four steps with the tapes of three bytes: each step reads one of the tapes made so far, in one of six ways.
func TestEveryFewSteps(t *testing.T) {
	of := []byte{7, 0, 255}
	var grow func(s shelf, steps int)
	grow = func(s shelf, steps int) {
		if steps == 0 {
			s.check(t, "every step")
			return
		}
		for i := range s.tapes {
			for way := -1; way <= 4; way++ {
				next := shelf{append([]tape.Tape(nil), s.tapes...), append([]place(nil), s.places...)}
				if way == 4 {
					next.keep(checkByte(t, "every step", s.tapes[i], s.places[i]))
				} else {
					next.keep(checkTake(t, "every step", s.tapes[i], s.places[i], way))
				}
				grow(next, steps-1)
			}
		}
	}
	grow(shelf{[]tape.Tape{tape.New(of)}, []place{{of, 0}}}, 4)
}

// P9.1: a tape is a value: of a copy, in whatever it lies, another goes on, and the first stays at its place.
func TestTapeIsAValue(t *testing.T) {
	of := some(20, 5)
	a := tape.New(of)
	b := a
	_, b, _ = b.Take(7)
	checkTape(t, "the first, its copy read", a, place{of, 0})
	checkTape(t, "the copy", b, place{of, 7})
	_, a, _ = a.Byte()
	checkTape(t, "the first, read itself", a, place{of, 1})
	checkTape(t, "the copy, the first read", b, place{of, 7})

	both := [2]tape.Tape{a, a}
	copied := both
	_, both[0], _ = both[0].Take(19)
	checkTape(t, "in an array, read", both[0], place{of, 20})
	checkTape(t, "its neighbour", both[1], place{of, 1})
	checkTape(t, "in the array's copy", copied[0], place{of, 1})

	inner := func(c tape.Tape) int {
		_, c, _ = c.Take(5)
		return c.Used()
	}
	if inner(b) != 12 || inner(b) != 12 {
		t.Error("a tape handed over is not where it was")
	}
	at := &b
	checkByte(t, "through a pointer", *at, place{of, 7})
	checkTape(t, "through a pointer", b, place{of, 7})
}

// P9.1: older tapes asked again behind newer ones tell what they told, as often as they are asked.
func TestOlderTapesAgain(t *testing.T) {
	of := some(60, 6)
	var s shelf
	s.add(tape.New(of), place{of, 0})
	for n := range 10 {
		last := len(s.tapes) - 1
		s.keep(checkTake(t, "forth", s.tapes[last], s.places[last], n))
	}
	for range 2 {
		for i := len(s.tapes) - 1; i >= 0; i-- {
			checkAll(t, fmt.Sprint("back, tape ", i), s.tapes[i], s.places[i])
		}
	}
	s.check(t, "forth again")
}

// P9.1: a refused read, of whatever kind, leaves the tape as it was.
func TestRefusedReadsChangeNothing(t *testing.T) {
	of := some(30, 7)
	_, a, _ := tape.New(of).Take(11)
	p := place{of, 11}
	for _, n := range []int{-1, math.MinInt, 20, 21, math.MaxInt} {
		list, z, e := a.Take(n)
		if e == api.OK || len(list) != 0 {
			t.Errorf("Take(%d): %v, error %d", n, list, e)
		}
		checkZero(t, fmt.Sprintf("Take(%d)", n), z)
		checkTape(t, fmt.Sprintf("behind a refused Take(%d)", n), a, p)
	}
}

// P9.1: a number below 0 is ErrArg wherever the tape stands, on the tape of no bytes and on one that is read up too.
func TestBelowNothing(t *testing.T) {
	_, end, _ := tape.New(some(5, 8)).Take(5)
	var zero tape.Tape
	for name, a := range map[string]tape.Tape{"full": tape.New(some(5, 8)), "read up": end, "zero": zero} {
		for _, n := range []int{-1, -2, -5, -6, -256, -1 << 31, math.MinInt + 1, math.MinInt} {
			list, z, e := a.Take(n)
			if len(list) != 0 || e != api.ErrArg {
				t.Errorf("%s, Take(%d): %v, error %d; want error 2", name, n, list, e)
			}
			checkZero(t, name+" of a number below 0", z)
		}
	}
}

// P9.3: n bytes and then m are n + m; where they run out, both ways run out.
func TestTwoReadsAreOne(t *testing.T) {
	for _, length := range []int{0, 1, 2, 7, 24} {
		of := some(length, 9)
		for used := range length + 1 {
			_, a, _ := tape.New(of).Take(used)
			for n := range length - used + 1 {
				first, between, e := a.Take(n)
				if e != api.OK {
					t.Fatalf("Take(%d) of %d: error %d", n, length-used, e)
				}
				for m := range length + 2 {
					second, two, e2 := between.Take(m)
					both, one, e1 := a.Take(n + m)
					what := fmt.Sprintf("%d of %d read, %d and %d more", used, length, n, m)
					if e1 != e2 || e1 == api.OK && !bytes.Equal(join(first, second), both) {
						t.Errorf("%s: %x and %x, error %d; at once %x, error %d", what, first, second, e2, both, e1)
					}
					if one.Left() != two.Left() || one.Used() != two.Used() {
						t.Errorf("%s: Left %d, Used %d; at once %d, %d", what, two.Left(), two.Used(), one.Left(), one.Used())
					}
				}
			}
		}
	}
}

// P9.3: n bytes are n times one, by Byte and by Take(1), and any pieces of them.
func TestReadsOfAnyPieces(t *testing.T) {
	r := rand.New(rand.NewSource(93))
	for _, n := range lengths {
		of := some(n, 10)
		ways := map[string]func() int{
			"one by one": func() int { return 1 },
			"two by two": func() int { return 2 },
			"any":        func() int { return r.Intn(n + 1) },
			"few":        func() int { return r.Intn(3) },
		}
		for name, next := range ways {
			a, got := tape.New(of), []byte(nil)
			for len(got) < n {
				list, behind, e := a.Take(min(next(), n-len(got)))
				if e != api.OK {
					t.Fatalf("%s: error %d", name, e)
				}
				got, a = append(got, list...), behind
			}
			if !bytes.Equal(got, of) || a.Used() != n {
				t.Errorf("%d bytes, %s: %.60x, Used %d; want %.60x", n, name, got, a.Used(), of)
			}
		}
		checkTape(t, fmt.Sprint(n, " bytes, by Byte"), tape.New(of), place{of, 0})
	}
}

// P9.1, rule 5: New keeps a copy: the list may be changed afterwards, ahead of the first read and between reads, and no tape shows it.
func TestListOfNewMayChange(t *testing.T) {
	for _, n := range lengths {
		inside, all := withRoom(some(n, 11))
		of := bytes.Clone(inside)
		a := tape.New(inside)
		clear(all)
		checkTape(t, fmt.Sprint(n, " bytes, changed behind New"), a, place{of, 0})
		_, b, _ := a.Take(n / 2)
		copy(all, some(len(all), 12))
		checkTape(t, fmt.Sprint(n, " bytes, changed between reads"), b, place{of, n / 2})
		checkTape(t, fmt.Sprint(n, " bytes, changed again"), a, place{of, 0})
	}
}

// P9.1, rule 5: what Take answers may be changed, room and all, and grown, and no tape and no other answer shows it.
func TestAnswersOfTakeMayChange(t *testing.T) {
	for _, length := range lengths {
		of := some(length, 13)
		for _, used := range []int{0, length / 3, length} {
			a := tape.New(of)
			_, b, _ := a.Take(used)
			for _, n := range []int{0, (length - used) / 2, length - used} {
				first, c, _ := b.Take(n)
				second, _, _ := b.Take(n)
				all, _, _ := a.Take(length)
				grown := append(first, some(500, 14)...)
				clear(first[:cap(first)])
				clear(grown)
				what := fmt.Sprintf("%d of %d, %d read", n, length, used)
				if !bytes.Equal(second, of[used:used+n]) || !bytes.Equal(all, of) {
					t.Errorf("%s: answers share memory", what)
				}
				checkTape(t, what+", the tape that was read", b, place{of, used})
				checkTape(t, what+", the tape behind", c, place{of, used + n})
				checkTape(t, what+", the first tape", a, place{of, 0})
			}
		}
	}
}

// Rule 5: what is handed to New and Split stays as it is, its spare room too.
func TestListsStayAsTheyAre(t *testing.T) {
	for _, n := range lengths {
		inside, all := withRoom(some(n, 15))
		before := bytes.Clone(all)
		a := tape.New(inside)
		for range n {
			_, a, _ = a.Byte()
		}
		list, _, _ := tape.New(inside).Take(n)
		clear(list[:cap(list)])
		for _, chunks := range []int{-1, 0, 1, 2, 63, 64, 65} {
			got := split(inside, chunks)
			checkSplit(t, "a list with room", got, definedSplit(inside, chunks))
			for _, p := range got.lists() {
				clear(p[:cap(p)])
			}
		}
		if !bytes.Equal(all, before) {
			t.Errorf("%d bytes: the list, or what lies about it, has changed", n)
		}
	}
}

// P9.1: many tapes of one and the same list are each their own, at whatever places.
func TestTapesOfOneList(t *testing.T) {
	of := some(50, 16)
	var s shelf
	for n := range 51 {
		_, a, _ := tape.New(of[:n]).Take(n / 2)
		s.add(a, place{of[:n], n / 2})
		_, a, _ = tape.New(of[n:]).Take((50 - n) / 3)
		s.add(a, place{of[n:], (50 - n) / 3})
	}
	s.check(t, "of one list")
}

// Rules 6 and 7: many readers of one tape at one time, each reads what it would alone.
func TestManyReadersAtOneTime(t *testing.T) {
	of := some(200, 17)
	a := tape.New(of)
	var all sync.WaitGroup
	for reader := range 16 {
		all.Add(1)
		go func() {
			defer all.Done()
			for used := range len(of) {
				_, b, _ := a.Take(used)
				list, _, _ := b.Take(len(of) - used)
				clear(list)
				checkTape(t, fmt.Sprintf("reader %d at %d", reader, used), b, place{of, used})
			}
			want := definedSplit(of, reader+1)
			checkSplit(t, fmt.Sprint("splitter ", reader), split(of, reader+1), want)
		}()
	}
	all.Wait()
	checkTape(t, "behind all", a, place{of, 0})
}

// P9.1: a Tape has no way to change where it stands: all of its methods are those of the value, and no field is open.
func TestNothingIsOpen(t *testing.T) {
	kind := reflect.TypeFor[tape.Tape]()
	if kind.NumMethod() != 4 || reflect.PointerTo(kind).NumMethod() != 4 {
		t.Errorf("%d methods of the value, %d of the pointer; want 4, 4", kind.NumMethod(), reflect.PointerTo(kind).NumMethod())
	}
	for i := range kind.NumField() {
		if kind.Field(i).IsExported() {
			t.Errorf("the field %s is open", kind.Field(i).Name)
		}
	}
}

func ExampleTape_Take() {
	a := tape.New([]byte{1, 2, 3})
	list, b, e := a.Take(2)
	fmt.Println(list, b.Left(), b.Used(), int(e))
	next, _, e := b.Byte()
	fmt.Println(next, int(e))
	fmt.Println(a.Left(), b.Left())
	_, _, e = b.Take(2)
	fmt.Println(e == api.ErrTape)
	// Output:
	// [1 2] 1 2 0
	// 3 0
	// 3 1
	// true
}
