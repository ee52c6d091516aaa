package server

import (
	"churn/api"
	"churn/crew"
	"churn/line"
	"churn/round"
	"churn/steps"
)

// An engine plays one round; which one it is shows in no outcome.
type engine interface {
	play(c api.Config, s api.State, raw, tape []byte) api.Outcome
}

// engineOf: the engine of a number. A number that stands for none has one too, which refuses every round.
func engineOf(number int, script []int) engine {
	switch number {
	case ByMix:
		return byMix{}
	case ByCrew:
		return byCrew{}
	case ByLine:
		return byLine{script}
	}
	return byNone{}
}

type byMix struct{}

func (byMix) play(c api.Config, s api.State, raw, tape []byte) api.Outcome {
	return round.Mix(c, s, raw, tape)
}

type byCrew struct{}

func (byCrew) play(c api.Config, s api.State, raw, tape []byte) api.Outcome {
	return crew.Run(c, s, raw, tape)
}

type byLine struct{ script []int }

func (l byLine) play(c api.Config, s api.State, raw, tape []byte) api.Outcome {
	o, _ := line.Run(c, s, raw, tape, l.script)
	return o
}

type byNone struct{}

func (byNone) play(_ api.Config, s api.State, _, _ []byte) api.Outcome {
	return steps.Refused(s, api.ErrArg, 0)
}
