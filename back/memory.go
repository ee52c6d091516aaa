package back

import (
	"churn/api"
	"churn/onion"
	"churn/riffle"
	"churn/round"
	"churn/route"
	"churn/steps"
)

const (
	noise = -1 // stands in From for a cell that didn't come in

	maxRound int64 = 1<<62 - 1
	maxEpoch int64 = 1 << 62
)

// kept: the memory of a round that put out so many cells. What would refuse here has refused the round already.
func kept(c api.Config, s api.State, raw, tape []byte, out int) (api.Memory, api.Errno) {
	b, w, _, e := steps.Open(c, s, raw)
	if e != api.OK {
		return api.Memory{}, e
	}
	fresh, _, e := round.Sift(c, w, b)
	if e != api.OK {
		return api.Memory{}, e
	}
	key, e := route.Key(c.Master, b.Header.Epoch)
	if e != api.OK {
		return api.Memory{}, e
	}
	order, e := riffle.Order(tape, out, c.Chunks)
	if e != api.OK {
		return api.Memory{}, e
	}
	h := b.Header
	h.Left--
	places := placesOf(fresh, key, c.Left, b.Cells)
	return api.Memory{Header: h, Count: len(b.Cells), From: origins(order, places), Nonces: nonces(b.Cells, places)}, api.OK
}

// placesOf: where in the batch the fresh cells stand. Each of them is the first in the batch that peels to its replay tag: so the next cell that peels to the next one's is that one.
func placesOf(fresh []api.Peeled, key []byte, left int, cells [][]byte) []int {
	var places []int
	for j, x := range cells {
		if len(places) == len(fresh) {
			break
		}
		p, e := onion.Peel(key, left, x)
		if e == api.OK && p.Replay == fresh[len(places)].Replay {
			places = append(places, j)
		}
	}
	return places
}

// origins: for each cell that went out the place in the batch from which it came. The fresh cells had the order's first numbers, noise those behind them.
func origins(order, places []int) []int {
	from := make([]int, len(order))
	for i, number := range order {
		from[i] = noise
		if number < len(places) {
			from[i] = places[number]
		}
	}
	return from
}

// nonces: those of the cells at these places, and noughts at all others.
func nonces(cells [][]byte, places []int) [][api.NonceSize]byte {
	list := make([][api.NonceSize]byte, len(cells))
	for _, j := range places {
		list[j] = [api.NonceSize]byte(cells[j][:api.NonceSize])
	}
	return list
}

// rightHeader: whether a batch with this header may have gone out of a server.
func rightHeader(h api.Header) bool {
	return 0 <= h.Left && h.Left < api.MaxHops &&
		0 <= h.Round && h.Round <= maxRound &&
		0 <= h.Epoch && h.Epoch <= maxEpoch
}

// rightNumbers: whether no more cells went in or out than a batch holds, and there is a nonce for each that came in.
func rightNumbers(m api.Memory) bool {
	return 0 <= m.Count && m.Count <= api.MaxBatch &&
		len(m.From) <= api.MaxBatch &&
		len(m.Nonces) == m.Count
}

// rightPlaces: whether each cell came from a place of its own below count, or was noise.
func rightPlaces(from []int, count int) bool {
	taken := make([]bool, count)
	for _, j := range from {
		if j == noise {
			continue
		}
		if j < 0 || j >= count || taken[j] {
			return false
		}
		taken[j] = true
	}
	return true
}
