package desk

import (
	"math"
	"slices"
	"strconv"
	"strings"

	"churn/api"
	"churn/cascade"
	"churn/hash"
)

// done is the answer of a command that has nothing to tell.
const done = "ok"

// A command is what a line's first word asks for: how many words the line has, that one counted, and what is done with the others. What it wants is looked at ahead of any change, so that a line given up leaves the desk as it was.
type command struct {
	least, most int
	do          func(d *desk, words []string) string
}

// commands: by the words that ask for them.
func commands() map[string]command {
	return map[string]command{
		"hop":   {11, 11, (*desk).hop},
		"open":  {1, 1, (*desk).open},
		"at":    {3, 3, (*desk).at},
		"send":  {2, math.MaxInt, (*desk).send},
		"raw":   {2, 2, (*desk).raw},
		"again": {2, 2, (*desk).again},
		"go":    {3, math.MaxInt, (*desk).play},
		"show":  {1, 1, (*desk).show},
		"sum":   {1, 1, (*desk).sum},
	}
}

func (d *desk) hop(words []string) string {
	c := api.Config{Master: bytesOf(words[0])}
	for i, field := range []*int{&c.Span, &c.Room, &c.Num, &c.Den, &c.Noise, &c.Chunks, &c.Workers, &c.Cap, &c.Shards} {
		*field = int(numberOf(words[1+i]))
	}
	demand(len(d.hops) < api.MaxHops, api.ErrLong)
	d.hops = append(d.hops, c)
	return done
}

func (d *desk) open([]string) string {
	demand(len(d.hops) > 0, api.ErrNothing)
	hops := slices.Clone(d.hops)
	var masters [][]byte
	for i := range hops {
		hops[i].Left = len(hops) - i
		masters = append(masters, hops[i].Master)
	}
	row, e := cascade.New(hops)
	accept(e)
	d.row, d.masters = row, masters
	d.cells, d.batch, d.output = nil, nil, nil
	return done
}

func (d *desk) at(words []string) string {
	round, epoch := numberOf(words[0]), numberOf(words[1])
	d.round, d.epoch = round, epoch
	return done
}

func (d *desk) send(words []string) string {
	payload, nonces := bytesOf(words[0]), each(words[1:], nonceOf)
	d.needRow(len(nonces))
	c, e := cascade.Submit(d.masters, d.epoch, nonces, payload)
	accept(e)
	return d.keep(c)
}

func (d *desk) raw(words []string) string {
	c := bytesOf(words[0])
	demand(d.row != nil, api.ErrNothing)
	return d.keep(c)
}

func (d *desk) again(words []string) string {
	number := numberOf(words[0])
	demand(number < int64(len(d.cells)), api.ErrNothing)
	return d.put(int(number))
}

// needRow: gives the line up, unless a cascade is open that has so many hops.
func (d *desk) needRow(hops int) {
	demand(d.row != nil, api.ErrNothing)
	demand(hops == len(d.masters), api.ErrWord)
}

// keep: one cell more, which stands behind the batch.
func (d *desk) keep(c []byte) string {
	d.cells = append(d.cells, c)
	return d.put(len(d.cells) - 1)
}

// put: the cell of this number stands behind the batch.
func (d *desk) put(number int) string {
	d.batch = append(d.batch, number)
	return "cell " + strconv.Itoa(number)
}

func (d *desk) play(words []string) string {
	engine := engineOf(words[0])
	script, tapes := scriptOf(words[1]), each(words[2:], bytesOf)
	d.needRow(len(tapes))
	raw, e := cascade.Entry(d.round, d.epoch, len(d.masters), d.waiting())
	accept(e)
	outcomes := d.row.Round(engine, raw, tapes, script)
	d.batch = nil
	d.round = min(d.round+1, greatest)
	// Where a hop refused, its outcome is the last one and has no bytes: so there is no last output then.
	d.output = outcomes[len(outcomes)-1].Out
	return outcomesTold(outcomes)
}

// waiting: the batch's cells.
func (d *desk) waiting() [][]byte {
	var cells [][]byte
	for _, number := range d.batch {
		cells = append(cells, d.cells[number])
	}
	return cells
}

func outcomesTold(outcomes []api.Outcome) string {
	var list []string
	for _, o := range outcomes {
		if o.Err != api.OK {
			list = append(list, refusal(o.Err))
		} else {
			list = append(list, reportTold(o.Report))
		}
	}
	return strings.Join(list, "; ")
}

func reportTold(r api.Report) string {
	var list []string
	for _, n := range []int{r.In, r.Malformed, r.Replays, r.Noise, r.Out} {
		list = append(list, strconv.Itoa(n))
	}
	return strings.Join(list, " ")
}

func (d *desk) show([]string) string {
	demand(len(d.output) > 0, api.ErrNothing)
	payloads, e := cascade.Payloads(d.output)
	accept(e)
	if len(payloads) == 0 {
		return "none"
	}
	var list []string
	for _, p := range payloads {
		list = append(list, wordOf(p))
	}
	return strings.Join(list, " ")
}

func (d *desk) sum([]string) string {
	demand(len(d.output) > 0, api.ErrNothing)
	digest := hash.Sum(d.output)
	return wordOf(digest[:])
}
