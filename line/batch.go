package line

import (
	"churn/api"
	"churn/onion"
	"churn/round"
	"churn/route"
	"churn/shards"
	"churn/steps"
	"churn/tape"
	"churn/window"
)

// A batch is what a round is about: what came in, and what the tasks have made of it so far.
type batch struct {
	config api.Config
	state  api.State
	tape   []byte
	header api.Header
	cells  [][]byte
	window api.Window
	key    []byte

	seen   *shards.Filter // the replay tags of the cells that were looked at
	fresh  []api.Peeled
	report api.Report

	err    api.Errno // of step 5: it is told when the tasks have ended
	parts  api.Parts
	chunks [][][]byte // the fresh cells and the noise, as the chunks will be shuffled
}

// A peeling is what came of a cell.
type peeling struct {
	api.Peeled
	err api.Errno
}

// A chunk is what came of a chunk's shuffle.
type chunk struct {
	cells [][]byte
	err   api.Errno
}

// opened: the batch ahead of the tasks, or nil and the outcome of a round that isn't begun.
func opened(c api.Config, s api.State, raw, tape []byte) (*batch, api.Outcome) {
	if e := round.Check(c, s); e != api.OK {
		return nil, steps.Refused(s, e, 0)
	}
	read, w, at, e := steps.Open(c, s, raw)
	if e != api.OK {
		return nil, steps.Refused(s, e, at)
	}
	key, e := route.Key(c.Master, read.Header.Epoch)
	if e != api.OK {
		return nil, steps.Refused(s, e, 0)
	}
	// The shards are those of a right configuration, so no filter refuses them.
	seen, _ := shards.New(c.Shards)
	return &batch{config: c, state: s, tape: tape, header: read.Header, cells: read.Cells, window: w, key: key, seen: seen}, api.Outcome{}
}

// peel: the first half of step 4, for one cell.
func (b *batch) peel(number int) peeling {
	p, e := onion.Peel(b.key, b.config.Left, b.cells[number])
	return peeling{p, e}
}

// sift: the other half of step 4, for the cell that comes next in the batch.
func (b *batch) sift(p peeling) {
	b.report.In++
	switch {
	case p.err != api.OK:
		b.report.Malformed++
	case b.isReplay(p.Replay):
		b.report.Replays++
	default:
		b.seen.Offer(p.Replay, len(b.fresh))
		b.fresh = append(b.fresh, p.Peeled)
	}
}

func (b *batch) isReplay(tag [api.TagSize]byte) bool {
	_, ahead := b.seen.Lowest(tag)
	return ahead || window.Has(b.window, tag)
}

// addNoise: step 5, and the cells cut into their chunks.
func (b *batch) addNoise() (e api.Errno) {
	b.parts, e = tape.Split(b.tape, b.config.Chunks)
	if e != api.OK {
		return e
	}
	cover, e := steps.Noise(b.config, len(b.fresh), b.parts.Noise)
	if e != api.OK {
		return e
	}
	b.chunks, e = steps.Cut(append(steps.Cells(b.fresh), cover...), b.config.Chunks)
	return e
}

// shuffle: step 6, for one chunk.
func (b *batch) shuffle(number int) chunk {
	cells, e := steps.Chunk(b.parts.Chunks[number], b.chunks[number])
	return chunk{cells, e}
}

// outcome: what the round comes to, with the shuffled chunks and the first error among them.
func (b *batch) outcome(chunks [][][]byte, e api.Errno) api.Outcome {
	if b.err != api.OK {
		e = b.err
	}
	var o api.Outcome
	if e == api.OK {
		o, e = b.finished(chunks)
	}
	if e != api.OK {
		return steps.Refused(b.state, e, 0)
	}
	return o
}

// finished: the end of step 6, and steps 7 and 8.
func (b *batch) finished(chunks [][][]byte) (api.Outcome, api.Errno) {
	cells, e := steps.Braid(b.parts.Braid, chunks)
	if e != api.OK {
		return api.Outcome{}, e
	}
	return steps.Close(b.config, b.window, b.header, b.fresh, cells, b.report)
}
