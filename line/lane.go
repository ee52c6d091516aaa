package line

import "churn/duct"

// A giver is a task that puts things into a lane.
type giver[T any] interface {
	gives() bool // has it a thing to put?
	hand() T     // it lets go of the thing, and goes on to its next state
}

// A taker is a task that takes things from a lane.
type taker[T any] interface {
	takes() bool // does it want a thing?
	accept(x T)  // it has the thing, and goes on to its next state
}

// A lane is a duct with the tasks at its two ends, at each in the order of their numbers. A duct of the capacity 0 holds nothing: there the tasks meet, and things pass from hand to hand.
type lane[T any] struct {
	*duct.Duct[T]
	givers []giver[T]
	takers []taker[T]
}

func newLane[T any](capacity int) *lane[T] {
	// The capacity is that of a right configuration, so no duct refuses it.
	d, _ := duct.New[T](capacity)
	return &lane[T]{Duct: d}
}

// canGive: may a task that has a thing to put be picked?
func (l *lane[T]) canGive() bool { return l.CanPut() || l.taker() != nil }

// canTake: may a task that wants a thing be picked? It may, too, where it will find that nothing comes any more.
func (l *lane[T]) canTake() bool { return l.CanTake() || l.Closed() || l.giver() != nil }

// give: a giver's step.
func (l *lane[T]) give(from giver[T]) {
	if to := l.taker(); to != nil {
		to.accept(from.hand())
		return
	}
	l.Put(from.hand())
}

// take: a taker's step; false: the duct is closed and empty.
func (l *lane[T]) take(to taker[T]) bool {
	if from := l.giver(); from != nil {
		to.accept(from.hand())
		return true
	}
	x, there, _ := l.Take()
	if there {
		to.accept(x)
	}
	return there
}

// giver: the lowest-numbered task that a taker can meet, or nil.
func (l *lane[T]) giver() giver[T] {
	if l.Cap() > 0 {
		return nil
	}
	for _, g := range l.givers {
		if g.gives() {
			return g
		}
	}
	return nil
}

// taker: the lowest-numbered task that a giver can meet, or nil.
func (l *lane[T]) taker() taker[T] {
	if l.Cap() > 0 {
		return nil
	}
	for _, t := range l.takers {
		if t.takes() {
			return t
		}
	}
	return nil
}
