// Package steps holds the steps of a round as pieces for whoever plays it: over lists, by tasks or by goroutines. Their numbers are those of the section 'The round' in shared/DOC.md. Configuration and state have been looked at (step 1).
package steps

import (
	"slices"

	"churn/api"
	"churn/braid"
	"churn/draw"
	"churn/frame"
	"churn/noise"
	"churn/perm"
	"churn/window"
)

// Open: steps 2 and 3, the batch of these bytes and the window at its epoch. Where it is the bytes that are refused, at tells their place.
func Open(c api.Config, s api.State, raw []byte) (b api.Batch, w api.Window, at int, e api.Errno) {
	b, at, e = frame.Read(raw)
	if e != api.OK {
		return api.Batch{}, api.Window{}, at, e
	}
	w, e = opened(c, s, b.Header)
	if e != api.OK {
		return api.Batch{}, api.Window{}, 0, e
	}
	return b, w, 0, api.OK
}

// opened: the window at the batch's epoch, if the batch comes to the right hop and is not of a round that is over.
func opened(c api.Config, s api.State, h api.Header) (api.Window, api.Errno) {
	if h.Left != c.Left {
		return api.Window{}, api.ErrHop
	}
	if h.Round < s.Next {
		return api.Window{}, api.ErrRound
	}
	return window.Open(s.Window, h.Epoch, c.Span)
}

// Noise: step 5, the noise cells that stand behind so many fresh ones, by the noise's part of the tape.
func Noise(c api.Config, fresh int, part []byte) ([][]byte, api.Errno) {
	k, e := noise.Count(part, c.Num, c.Den, c.Noise)
	if e != api.OK {
		return nil, e
	}
	if fresh+k > api.MaxBatch {
		return nil, api.ErrCrowd
	}
	return noise.Cells(part, k, c.Left-1)
}

// Cut: a list in the chunks of step 6, none of them a copy.
func Cut[T any](list []T, chunks int) ([][]T, api.Errno) {
	sizes, e := braid.Sizes(len(list), chunks)
	if e != api.OK {
		return nil, e
	}
	pieces := make([][]T, chunks)
	for j, size := range sizes {
		pieces[j], list = list[:size], list[size:]
	}
	return pieces, api.OK
}

// Chunk: of step 6 what is done to one chunk, its things in the order that its part of the tape gives them.
func Chunk[T any](part []byte, things []T) ([]T, api.Errno) {
	draws, _, e := draw.All(part, perm.Bounds(len(things)))
	if e != api.OK {
		return nil, e
	}
	own, e := perm.From(len(things), draws)
	if e != api.OK {
		return nil, e
	}
	return perm.Apply(own, things)
}

// Pattern: of step 6 from which chunk each place's thing comes, by the braid's part of the tape.
func Pattern[T any](part []byte, chunks [][]T) ([]int, api.Errno) {
	n, sizes := 0, make([]int, len(chunks))
	for j, things := range chunks {
		sizes[j] = len(things)
		n += len(things)
	}
	draws, _, e := draw.All(part, braid.Bounds(n))
	if e != api.OK {
		return nil, e
	}
	pattern, _, e := braid.Pattern(sizes, draws)
	return pattern, e
}

// Braid: of step 6 the end, the chunks' things in one list, by the braid's part of the tape.
func Braid[T any](part []byte, chunks [][]T) ([]T, api.Errno) {
	pattern, e := Pattern(part, chunks)
	if e != api.OK {
		return nil, e
	}
	return braid.Weave(pattern, chunks)
}

// Close: steps 7 and 8, the fresh ones' tags in the window that was opened, and the shuffled cells as bytes. h is the header with which the batch came in.
func Close(c api.Config, w api.Window, h api.Header, fresh []api.Peeled, cells [][]byte, report api.Report) (api.Outcome, api.Errno) {
	w, e := window.Add(w, h.Epoch, Tags(fresh), c.Room)
	if e != api.OK {
		return api.Outcome{}, e
	}
	h.Left--
	out, e := frame.Pack(api.Batch{Header: h, Cells: cells})
	if e != api.OK {
		return api.Outcome{}, e
	}
	report.Noise, report.Out = len(cells)-len(fresh), len(cells)
	return api.Outcome{Out: out, State: api.State{Next: h.Round + 1, Window: w}, Report: report}, api.OK
}

// Refused: the outcome of a round that changes nothing. The state may be any, sound or not.
func Refused(s api.State, e api.Errno, at int) api.Outcome {
	return api.Outcome{State: CopyOf(s), Err: e, At: at}
}

// CopyOf: a state whose lists are memory of their own. No layer that looks at windows makes it, for it need not be right.
func CopyOf(s api.State) api.State {
	s.Window.Epochs = slices.Clone(s.Window.Epochs)
	for i, e := range s.Window.Epochs {
		s.Window.Epochs[i].Tags = slices.Clone(e.Tags)
	}
	return s
}

// Cells: the cells of what was peeled, in its order.
func Cells(fresh []api.Peeled) [][]byte {
	var cells [][]byte
	for _, p := range fresh {
		cells = append(cells, p.Cell)
	}
	return cells
}

// Tags: the replay tags of what was peeled, in its order.
func Tags(fresh []api.Peeled) [][api.TagSize]byte {
	var tags [][api.TagSize]byte
	for _, p := range fresh {
		tags = append(tags, p.Replay)
	}
	return tags
}
