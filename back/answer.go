package back

import (
	"bytes"

	"churn/api"
	"churn/cell"
	"churn/onion"
	"churn/reply"
	"churn/route"
)

// belongs: whether a batch of answers is one to the batch that the memory is of.
func belongs(b api.Batch, m api.Memory) api.Errno {
	switch {
	case b.Header.Left != m.Header.Left:
		return api.ErrHop
	case b.Header.Round != m.Header.Round:
		return api.ErrRound
	case b.Header.Epoch != m.Header.Epoch:
		return api.ErrEpoch
	case len(b.Cells) != len(m.From):
		return api.ErrCount
	}
	return api.OK
}

// returned: the cells that go on, each at the place of the cell that it answers; noughts at the places to which no answer comes.
func returned(c api.Config, m api.Memory, answers [][]byte) ([][]byte, api.Errno) {
	key, e := route.Key(c.Master, m.Header.Epoch)
	if e != api.OK {
		return nil, e
	}
	cells := blank(m.Count)
	for i, j := range m.From {
		inner, is := inside(answers[i], c.Left)
		if j == noise || !is {
			continue
		}
		if cells[j], e = wrapped(key, m.Nonces[j], c.Left, inner); e != api.OK {
			return nil, e
		}
	}
	return cells, api.OK
}

// inside: what an answer's cell holds for a server with so many left; false, if the cell is none.
func inside(answer []byte, left int) ([]byte, bool) {
	if left == 1 {
		// To the last server the answers come as plain cells. An error and noise are both none.
		payload, is, _ := cell.Open(answer)
		return payload, is
	}
	if isBlank(answer) {
		return nil, false
	}
	o, e := cell.Cut(answer, onion.Size(left-1))
	return o, e == api.OK
}

// wrapped: the cell of an answer in this hop's layer.
func wrapped(key []byte, nonce [api.NonceSize]byte, left int, inner []byte) ([]byte, api.Errno) {
	o, e := reply.Wrap(key, nonce, left, inner)
	if e != api.OK {
		return nil, e
	}
	return cell.Pad(o)
}

// blank: so many cells of noughts.
func blank(n int) [][]byte {
	cells := make([][]byte, n)
	for j := range cells {
		cells[j] = make([]byte, api.CellSize)
	}
	return cells
}

func isBlank(c []byte) bool { return bytes.Count(c, []byte{0}) == len(c) }
