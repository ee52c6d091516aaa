package crew

import (
	"bytes"
	"sync"

	"churn/api"
	"churn/order"
	"churn/steps"
	"churn/tape"
)

// Shuffle: as riffle.Shuffle, the chunks shuffled side by side.
func Shuffle(p []byte, chunks int, cells [][]byte) ([][]byte, api.Errno) {
	pieces, e := steps.Cut(cells, chunks)
	if e != api.OK {
		return nil, e
	}
	parts, e := tape.Split(p, chunks)
	if e != api.OK {
		return nil, e
	}
	pattern, e := steps.Pattern(parts.Braid, pieces)
	if e != api.OK {
		return nil, e
	}
	shares := make([]share, chunks)
	for j := range shares {
		shares[j] = share{part: parts.Chunks[j], cells: pieces[j]}
	}
	for place, j := range pattern {
		shares[j].places = append(shares[j].places, place)
	}
	return laid(shares, len(cells))
}

// A share is what one goroutine has to do: to shuffle a chunk's cells by the chunk's part of the tape, and to lay them at the chunk's places.
type share struct {
	part   []byte
	cells  [][]byte
	places []int
}

// laid: a list of n cells, each share's laid by a goroutine of its own.
func laid(shares []share, n int) ([][]byte, api.Errno) {
	list, errs := make([][]byte, n), make([]api.Errno, len(shares))
	var ended sync.WaitGroup
	ended.Add(len(shares))
	for j, s := range shares {
		go func() {
			defer ended.Done()
			errs[j] = s.lay(list)
		}()
	}
	ended.Wait()
	var fault order.Fault
	for j, e := range errs {
		fault.Note(j, e)
	}
	if _, e := fault.First(); e != api.OK {
		return nil, e
	}
	return list, api.OK
}

// lay: copies of the share's cells, shuffled, at its places of the list. No other share has one of these.
func (s share) lay(list [][]byte) api.Errno {
	shuffled, e := steps.Chunk(s.part, s.cells)
	if e != api.OK {
		return e
	}
	for k, place := range s.places {
		list[place] = bytes.Clone(shuffled[k])
	}
	return api.OK
}
