package line

import (
	"churn/api"
	"churn/order"
)

// A state is where a task stands. All tasks go through some of these, each in its own order.
type state int

const (
	taking  state = iota // P1, S1, H1, V1: it wants a thing
	working              // P2, S2, H2, V2
	giving               // F1, P3, S3, H3: it has a thing to put
	closing              // F2, S4
	ended
)

// A stand is what all tasks have: the state.
type stand struct{ at state }

func (s *stand) takes() bool { return s.at == taking }
func (s *stand) gives() bool { return s.at == giving }

// A made is a number with what a worker made of it.
type made[T any] struct {
	number int
	thing  T
}

// A feeder gives the numbers of the cells.
type feeder struct {
	stand
	jobs  *lane[int]
	next  int
	count int
}

func newFeeder(jobs *lane[int], count int) *feeder {
	f := &feeder{stand: stand{giving}, jobs: jobs, count: count}
	if count == 0 {
		f.at = closing
	}
	jobs.givers = append(jobs.givers, f)
	return f
}

func (f *feeder) ready() bool { return f.at == closing || f.jobs.canGive() }

func (f *feeder) step() bool {
	if f.at == giving {
		f.jobs.give(f)
		return false
	}
	f.jobs.Close()
	f.at = ended
	return true
}

func (f *feeder) hand() int {
	number := f.next
	f.next++
	if f.next == f.count {
		f.at = closing
	}
	return number
}

// A worker takes a number, makes something of it and gives that on: a peeler, or a shuffler.
type worker[T any] struct {
	stand
	from *lane[int]
	to   *lane[made[T]]
	do   func(int) T
	left *int // how many of its kind have not ended: the last one closes the lane that they all give into
	item made[T]
}

func (w *worker[T]) ready() bool {
	switch w.at {
	case taking:
		return w.from.canTake()
	case giving:
		return w.to.canGive()
	}
	return true
}

func (w *worker[T]) step() bool {
	switch w.at {
	case taking:
		if !w.from.take(w) {
			w.end()
		}
	case working:
		w.item.thing = w.do(w.item.number)
		w.at = giving
	case giving:
		w.to.give(w)
	}
	return w.at == ended
}

func (w *worker[T]) accept(number int) {
	w.item.number = number
	w.at = working
}

func (w *worker[T]) hand() made[T] {
	m := w.item
	w.item = made[T]{}
	w.at = taking
	return m
}

func (w *worker[T]) end() {
	w.at = ended
	*w.left--
	if *w.left == 0 {
		w.to.Close()
	}
}

// load: the thing in its hand, if there is one.
func (w *worker[T]) load() int {
	if w.at == working || w.at == giving {
		return 1
	}
	return 0
}

// A sifter takes what was peeled, looks at it in the order of the batch, and then gives the numbers of the chunks.
type sifter struct {
	stand
	batch  *batch
	peeled *lane[made[peeling]]
	work   *lane[int]
	buffer *order.Buffer[peeling]
	next   int
}

func newSifter(b *batch, peeled *lane[made[peeling]], work *lane[int]) *sifter {
	s := &sifter{batch: b, peeled: peeled, work: work, buffer: order.New[peeling]()}
	peeled.takers = append(peeled.takers, s)
	work.givers = append(work.givers, s)
	return s
}

func (s *sifter) ready() bool {
	switch s.at {
	case taking:
		return s.peeled.canTake()
	case giving:
		return s.work.canGive()
	}
	return true
}

func (s *sifter) step() bool {
	switch s.at {
	case taking:
		if !s.peeled.take(s) {
			s.at = working
		}
	case working:
		s.at = giving
		if s.batch.err = s.batch.addNoise(); s.batch.err != api.OK {
			s.at = closing
		}
	case giving:
		s.work.give(s)
	case closing:
		s.work.Close()
		s.at = ended
	}
	return s.at == ended
}

func (s *sifter) accept(m made[peeling]) {
	s.buffer.Put(m.number, m.thing)
	for p, there := s.buffer.Next(); there; p, there = s.buffer.Next() {
		s.batch.sift(p)
	}
}

func (s *sifter) hand() int {
	number := s.next
	s.next++
	if s.next == s.batch.config.Chunks {
		s.at = closing
	}
	return number
}

// A weaver takes the chunks, and braids them when it has them all.
type weaver struct {
	stand
	batch   *batch
	woven   *lane[made[chunk]]
	chunks  [][][]byte
	fault   order.Fault
	outcome api.Outcome
}

func newWeaver(b *batch, woven *lane[made[chunk]]) *weaver {
	w := &weaver{batch: b, woven: woven, chunks: make([][][]byte, b.config.Chunks)}
	woven.takers = append(woven.takers, w)
	return w
}

func (w *weaver) ready() bool { return w.at == working || w.woven.canTake() }

func (w *weaver) step() bool {
	if w.at == working {
		_, e := w.fault.First()
		w.outcome = w.batch.outcome(w.chunks, e)
		w.at = ended
		return true
	}
	if !w.woven.take(w) {
		w.at = working
	}
	return false
}

func (w *weaver) accept(m made[chunk]) {
	w.chunks[m.number] = m.thing.cells
	w.fault.Note(m.number, m.thing.err)
}
