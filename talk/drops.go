package talk

import (
	"churn/api"
	"churn/cell"
	"churn/drop"
	"churn/frame"
)

// answers: the batch of answers to a last output, each at the place of the cell that it answers.
func answers(out []byte) ([]byte, api.Errno) {
	b, _, e := frame.Read(out)
	if e != api.OK {
		return nil, e
	}
	cells, e := answerCells(b.Cells)
	if e != api.OK {
		return nil, e
	}
	return frame.Pack(api.Batch{Header: b.Header, Cells: cells})
}

// answerCells: the plain cell of the answer at the place of each payload, noughts at all others.
func answerCells(cells [][]byte) ([][]byte, api.Errno) {
	requests, places := requestsIn(cells)
	list := make([][]byte, len(cells))
	for i := range list {
		list[i] = make([]byte, api.CellSize)
	}
	for k, answer := range drop.Exchange(requests) {
		c, e := cell.Plain(answer)
		if e != api.OK {
			return nil, e
		}
		list[places[k]] = c
	}
	return list, api.OK
}

// requestsIn: the payloads of these cells, in their order, and the places at which they stand.
func requestsIn(cells [][]byte) (requests [][]byte, places []int) {
	for i, c := range cells {
		payload, is, _ := cell.Open(c) // beside an error it is none, as noise is
		if is {
			requests, places = append(requests, payload), append(places, i)
		}
	}
	return requests, places
}
