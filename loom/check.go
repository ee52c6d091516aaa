package loom

import "churn/api"

// Check: is it a plan?
func Check(p api.Plan) api.Errno {
	if isLong(p) {
		return api.ErrLong
	}
	for _, capacity := range p.Caps {
		if capacity < 0 || capacity > api.MaxSteps {
			return api.ErrPlan
		}
	}
	for _, ops := range p.Tasks {
		for _, op := range ops {
			if !isRight(op, len(ops), len(p.Caps), len(p.Tasks)) {
				return api.ErrPlan
			}
		}
	}
	return api.OK
}

func isLong(p api.Plan) bool {
	if len(p.Tasks) > api.MaxTasks || len(p.Caps) > api.MaxDucts {
		return true
	}
	for _, ops := range p.Tasks {
		if len(ops) > api.MaxOps {
			return true
		}
	}
	return false
}

// isRight: is it an operation of a task with so many of them, in a plan with so many ducts and tasks? The end of a task is a place too.
func isRight(op api.Op, ops, ducts, tasks int) bool {
	switch op.Kind {
	case api.OpTake:
		return isBelow(op.A, ducts) && isBelow(op.B, ops+1)
	case api.OpChoose:
		if !isBelow(op.B, ducts) {
			return false
		}
		fallthrough
	case api.OpPut, api.OpClose:
		return isBelow(op.A, ducts)
	case api.OpUnless:
		if !isNumber(op.B) {
			return false
		}
		fallthrough
	case api.OpJump:
		return isBelow(op.A, ops+1)
	case api.OpSet, api.OpAdd:
		return isNumber(op.A)
	case api.OpWait:
		return isBelow(op.A, tasks)
	case api.OpEnd:
		return true
	}
	return false
}

func isBelow(x, bound int) bool { return x >= 0 && x < bound }

// isNumber: may an operation name it?
func isNumber(x int) bool { return x >= -api.MaxSteps && x <= api.MaxSteps }
