package loom

import (
	"churn/api"
	"churn/duct"
)

// A hand is one task of a plan in its run. It has ended when its place is behind all its operations.
type hand struct {
	ops      []api.Op
	place    int
	register int
	taken    []int
}

func (h *hand) ended() bool { return h.place == len(h.ops) }

func (h *hand) end() { h.place = len(h.ops) }

// take: the number is in the register, and among those that it took.
func (h *hand) take(x int) {
	h.register = x
	h.taken = append(h.taken, x)
}

// A run is a plan while it is played.
type run struct {
	ducts []*duct.Duct[int]
	hands []*hand
	// Of each duct the lowest-numbered hand that stands at a put of it, and the lowest-numbered that stands at a take of it; nil: none. Found anew behind each pick, so that a meeting is found without going through all tasks for each of them.
	givers []*hand
	takers []*hand
	most   int
	late   int
}

// Play: a plan, picked by a script.
func Play(p api.Plan, script []int) (api.History, api.Errno) {
	if e := Check(p); e != api.OK {
		return api.History{}, e
	}
	r := begin(p)
	strands := make([]strand, len(r.hands))
	for number, h := range r.hands {
		strands[number] = r.strandOf(h)
	}
	out := weave(strands, script, api.MaxPicks)
	out.Most, out.Late, out.Taken = r.most, r.late, r.taken()
	return out, api.OK
}

// begin: the run of a plan that is right, ahead of its first pick.
func begin(p api.Plan) *run {
	r := &run{givers: make([]*hand, len(p.Caps)), takers: make([]*hand, len(p.Caps))}
	for _, capacity := range p.Caps {
		// A plan's capacity is one of a duct, so there is no error here.
		d, _ := duct.New[int](capacity)
		r.ducts = append(r.ducts, d)
	}
	for _, ops := range p.Tasks {
		r.hands = append(r.hands, &hand{ops: ops})
	}
	r.findMeetings()
	return r
}

func (r *run) strandOf(h *hand) strand {
	return strand{
		ended: h.ended,
		ready: func() bool { return r.may(h) },
		step:  func() { r.pick(h) },
	}
}

func (r *run) taken() [][]int {
	out := make([][]int, len(r.hands))
	for number, h := range r.hands {
		out[number] = h.taken
	}
	return out
}

// pick: one pick of a hand that may be picked.
func (r *run) pick(h *hand) {
	r.do(h)
	r.findMeetings()
	r.most = max(r.most, r.lying())
}

// lying: how many items lie in all ducts together.
func (r *run) lying() int {
	n := 0
	for _, d := range r.ducts {
		n += d.Len()
	}
	return n
}

// findMeetings: who stands where. From the last hand to the first, so that the lowest-numbered one stays.
func (r *run) findMeetings() {
	clear(r.givers)
	clear(r.takers)
	for number := len(r.hands) - 1; number >= 0; number-- {
		h := r.hands[number]
		if h.ended() {
			continue
		}
		op := h.ops[h.place]
		switch op.Kind {
		case api.OpPut:
			r.givers[op.A] = h
		case api.OpChoose:
			r.takers[op.B] = h
			fallthrough
		case api.OpTake:
			r.takers[op.A] = h
		}
	}
}

// canMeet: is there one of these to meet over duct a?
func (r *run) canMeet(others []*hand, a int) bool {
	d := r.ducts[a]
	return d.Cap() == 0 && !d.Closed() && others[a] != nil
}

// isReady: is there something to take from duct a, out of it or in a meeting?
func (r *run) isReady(a int) bool {
	return r.ducts[a].CanTake() || r.canMeet(r.givers, a)
}

// isSpent: will there never be anything to take from duct a any more?
func (r *run) isSpent(a int) bool {
	return r.ducts[a].Closed() && !r.ducts[a].CanTake()
}

// may: may a hand that hasn't ended be picked?
func (r *run) may(h *hand) bool {
	op := h.ops[h.place]
	switch op.Kind {
	case api.OpPut:
		d := r.ducts[op.A]
		return d.Closed() || d.CanPut() || r.canMeet(r.takers, op.A)
	case api.OpTake:
		return r.isReady(op.A) || r.isSpent(op.A)
	case api.OpChoose:
		return r.isReady(op.A) || r.isReady(op.B) || r.isSpent(op.A) && r.isSpent(op.B)
	case api.OpWait:
		return r.hands[op.A].ended()
	}
	return true
}

// do: the operation at which the hand stands. The hand goes on ahead of it; what sends it elsewhere says so.
func (r *run) do(h *hand) {
	op := h.ops[h.place]
	h.place++
	switch op.Kind {
	case api.OpPut:
		r.put(h, op.A)
	case api.OpTake:
		if r.isReady(op.A) {
			r.take(h, op.A)
		} else {
			h.place = op.B
		}
	case api.OpChoose:
		r.choose(h, op)
	case api.OpClose:
		if r.ducts[op.A].Close() != api.OK {
			r.late++
		}
	case api.OpSet:
		h.register = 0
		fallthrough
	case api.OpAdd:
		h.register += op.A
	case api.OpUnless:
		if h.register == op.B {
			return
		}
		fallthrough
	case api.OpJump:
		h.place = op.A
	case api.OpEnd:
		h.end()
	}
}

// put: the register's number goes into duct a, or to the hand that is met there.
func (r *run) put(h *hand, a int) {
	is, e := r.ducts[a].Put(h.register)
	if e != api.OK {
		r.late++
	} else if !is {
		other := r.takers[a]
		other.take(h.register)
		other.place++
	}
}

// take: the first number of duct a, or that of the hand that is met there.
func (r *run) take(h *hand, a int) {
	x, is, _ := r.ducts[a].Take()
	if !is {
		other := r.givers[a]
		x = other.register
		other.place++
	}
	h.take(x)
}

// choose: from the duct that is ready, the first one ahead of the second; from spent ones it goes where the register says.
func (r *run) choose(h *hand, op api.Op) {
	switch {
	case r.isReady(op.A):
		r.take(h, op.A)
	case r.isReady(op.B):
		r.take(h, op.B)
	case isBelow(h.register, len(h.ops)):
		h.place = h.register
	default:
		h.end()
	}
}
