package talk

import (
	"slices"

	"churn/api"
	"churn/back"
	"churn/row"
)

// A leg is a server's round as it was handed in: what tells the server's memory of it.
type leg struct {
	config    api.Config
	state     api.State // ahead of the round
	raw, tape []byte
}

// there: each server's round, up to the first that is refused, and its leg.
func (t *Talk) there(engine int, raw []byte, tapes [][]byte, script []int) (outcomes []api.Outcome, legs []leg) {
	for i, h := range t.hops {
		l := leg{h.config, h.server.State(), raw, row.Tape(tapes, i)}
		o := h.server.Round(engine, l.raw, l.tape, script)
		outcomes, legs = append(outcomes, o), append(legs, l)
		if o.Err != api.OK {
			break
		}
		raw = o.Out
	}
	return outcomes, legs
}

// comesBack: what the first server puts out of the answers to the last one's output.
func comesBack(legs []leg, out []byte) []byte {
	raw, e := answers(out)
	for _, l := range slices.Backward(legs) {
		if e != api.OK {
			return nil
		}
		raw, e = l.returned(raw)
	}
	return raw
}

// returned: the batch of answers, through the server.
func (l leg) returned(raw []byte) ([]byte, api.Errno) {
	_, m := back.Forward(l.config, l.state, l.raw, l.tape)
	raw, _, e := back.Return(l.config, m, raw)
	return raw, e
}
