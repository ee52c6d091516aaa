package line_test

import (
	"bytes"
	"fmt"
	"math/big"
	"math/rand"
	"slices"
	"testing"

	"churn/api"
	"churn/cell"
	"churn/frame"
	"churn/line"
	"churn/noise"
	"churn/onion"
	"churn/round"
	"churn/route"
	"churn/window"
)

// some: so many bytes without a rule.
func some(n int, seed int64) []byte {
	p := make([]byte, n)
	rand.New(rand.NewSource(seed)).Read(p)
	return p
}

// loud: a tape of so many bytes that tells as many noise cells as there can be.
func loud(n int, seed int64) []byte {
	p := some(n, seed)
	p[0], p[1] = 255, 255
	return p
}

// must: the answer, where an error would be the test's own fault.
func must[T any](x T, e api.Errno) T {
	if e != api.OK {
		panic(e)
	}
	return x
}

var master = bytes.Repeat([]byte{7}, 32)

// config: a right configuration of the hop with two left, with noise, and with room for a few batches.
func config(workers, chunks, capacity int) api.Config {
	return api.Config{Master: master, Left: 2, Span: 3, Room: 600, Num: 2, Den: 3, Noise: 4, Chunks: chunks, Workers: workers, Cap: capacity, Shards: 2}
}

// quiet: one without noise.
func quiet(workers, chunks, capacity int) api.Config {
	c := config(workers, chunks, capacity)
	c.Num, c.Noise = 0, 0
	return c
}

// sent: a cell that the hop with two left peels in this epoch, number n.
func sent(epoch int64, n int) []byte {
	key := must(route.Key(master, epoch))
	nonce := [16]byte{15: byte(n), 14: byte(n >> 8), 3: 9}
	inner := append(fmt.Appendf(nil, "cell %d", n), make([]byte, 82)...)[:82]
	return must(cell.Pad(must(onion.Wrap(key, nonce, 2, inner))))
}

// cells: a batch's full number of cells of epoch 9, made once.
var cells = func() (list [][]byte) {
	for n := range 256 {
		list = append(list, sent(9, n))
	}
	return list
}()

// mixed: so many cells, of which some are malformed, and some stand there twice.
func mixed(n int, r *rand.Rand) (list [][]byte) {
	for range n {
		switch r.Intn(6) {
		case 0:
			list = append(list, turned(cells[r.Intn(256)], r.Intn(116), 1))
		case 1:
			list = append(list, cells[r.Intn(4)])
		default:
			list = append(list, cells[r.Intn(256)])
		}
	}
	return list
}

// turned: the bytes with one bit turned.
func turned(p []byte, at int, bit byte) []byte {
	p = slices.Clone(p)
	p[at] ^= bit
	return p
}

// tagsOf: the replay tags of the cells of epoch 9 number first to last.
func tagsOf(first, last int) (tags [][16]byte) {
	key := must(route.Key(master, 9))
	for n := first; n <= last; n++ {
		tags = append(tags, must(onion.Peel(key, 2, cells[n])).Replay)
	}
	return tags
}

// held: a state at Next 5 and epoch 9 that holds the tags of the cells number first to last.
func held(first, last int) api.State {
	return api.State{Next: 5, Window: must(window.Add(api.Window{Newest: 9}, 9, tagsOf(first, last), api.MaxRoom))}
}

// A given is what Run is handed, but for the script.
type given struct {
	c      api.Config
	s      api.State
	h      api.Header
	cells  [][]byte
	behind []byte // what stands behind the batch's bytes
	tape   []byte
}

// batch: a round of these cells with a long tape, that no step refuses.
func batch(c api.Config, list [][]byte) given {
	return given{c: c, s: api.State{Next: 5, Window: api.Window{Newest: 9}}, h: api.Header{Round: 8, Epoch: 9, Left: 2}, cells: list, tape: loud(6000, 2201)}
}

func (g given) raw() []byte {
	return append(must(frame.Pack(api.Batch{Header: g.h, Cells: g.cells})), g.behind...)
}

func (g given) mix() api.Outcome { return round.Mix(g.c, g.s, g.raw(), g.tape) }

func (g given) run(script ...int) (api.Outcome, api.History) {
	return line.Run(g.c, g.s, g.raw(), g.tape, script)
}

// with: the same round by other workers, capacities and shards.
func (g given) with(workers, capacity, shards int) given {
	g.c.Workers, g.c.Cap, g.c.Shards = workers, capacity, shards
	return g
}

func (g given) String() string {
	return fmt.Sprintf("%d cells, %d workers, %d chunks, capacity %d, a tape of %d", len(g.cells), g.c.Workers, g.c.Chunks, g.c.Cap, len(g.tape))
}

func sameState(a, b api.State) bool {
	return a.Next == b.Next && a.Window.Newest == b.Window.Newest && slices.EqualFunc(a.Window.Epochs, b.Window.Epochs, func(a, b api.Epoch) bool {
		return a.Number == b.Number && slices.Equal(a.Tags, b.Tags)
	})
}

func sameOutcome(a, b api.Outcome) bool {
	return bytes.Equal(a.Out, b.Out) && sameState(a.State, b.State) && a.Report == b.Report && a.Err == b.Err && a.At == b.At
}

// told: an outcome in short.
func told(o api.Outcome) string {
	return fmt.Sprintf("error %d at %d, %+v, %d bytes, next %d, newest %d, %d tags", o.Err, o.At, o.Report, len(o.Out), o.State.Next, o.State.Window.Newest, window.Len(o.State.Window))
}

func sameHistory(a, b api.History) bool {
	return slices.Equal(a.Picks, b.Picks) && a.Most == b.Most && a.Ended == b.Ended && a.Stuck == b.Stuck && a.Late == b.Late && len(a.Taken) == 0 && len(b.Taken) == 0
}

// A pipe is a duct, as the model has it: the numbers that it holds.
type pipe struct {
	list   []int
	closed bool
}

// A model is a run of the tasks by the chapter's words: each task's state by its name in the table, "" behind its end. What the cells are has no say in it, but for whether step 5 is refused.
type model struct {
	workers, chunks, capacity, cells int
	refused                          bool

	states []string
	number []int // the number in each task's hand, or the one that it gives next
	pipes  map[string]*pipe
	waits  map[int]bool // in the sifter's buffer
	next   int
	woven  map[int]bool // the chunks that the weaver has

	picks  []int
	counts []int // ahead of each pick: how many tasks could be picked
	most   int
	wrong  []string // what must not happen
}

// gives: the duct into which a task in that state gives.
func gives(state string) string {
	switch state {
	case "F1":
		return "jobs"
	case "P3":
		return "peeled"
	case "S3":
		return "work"
	case "H3":
		return "woven"
	}
	return ""
}

// takes: the duct from which a task in that state takes.
func takes(state string) string {
	switch state {
	case "P1":
		return "jobs"
	case "S1":
		return "peeled"
	case "H1":
		return "work"
	case "V1":
		return "woven"
	}
	return ""
}

func newModel(c api.Config, cells int, refused bool) *model {
	m := &model{workers: c.Workers, chunks: c.Chunks, capacity: c.Cap, cells: cells, refused: refused, waits: map[int]bool{}, woven: map[int]bool{}}
	m.pipes = map[string]*pipe{"jobs": {}, "peeled": {}, "work": {}, "woven": {}}
	m.states = slices.Concat([]string{"F1"}, slices.Repeat([]string{"P1"}, c.Workers), []string{"S1"}, slices.Repeat([]string{"H1"}, c.Workers), []string{"V1"})
	if cells == 0 {
		m.states[0] = "F2"
	}
	m.number = make([]int, len(m.states))
	return m
}

// partner: the lowest-numbered task that this one can meet, or -1.
func (m *model) partner(task int) int {
	if m.capacity > 0 {
		return -1
	}
	into, from := gives(m.states[task]), takes(m.states[task])
	for other, state := range m.states {
		if into != "" && into == takes(state) || from != "" && from == gives(state) {
			return other
		}
	}
	return -1
}

func (m *model) may(task int) bool {
	state := m.states[task]
	if state == "" {
		return false
	}
	if d := gives(state); d != "" {
		return len(m.pipes[d].list) < m.capacity || m.partner(task) >= 0
	}
	if d := takes(state); d != "" {
		return len(m.pipes[d].list) > 0 || m.pipes[d].closed || m.partner(task) >= 0
	}
	return true
}

func (m *model) allThatMay() (list []int) {
	for task := range m.states {
		if m.may(task) {
			list = append(list, task)
		}
	}
	return list
}

// pick: one step of the task.
func (m *model) pick(task int) {
	state, other := m.states[task], m.partner(task)
	into, from := m.pipes[gives(state)], m.pipes[takes(state)]
	switch {
	case into != nil && other >= 0:
		m.got(other, m.let(task))
	case into != nil:
		if into.closed {
			m.wrong = append(m.wrong, "a thing is put into "+gives(state)+", which is closed")
		}
		into.list = append(slices.Clone(into.list), m.let(task))
	case from != nil && len(from.list) > 0:
		x := from.list[0]
		from.list = slices.Clone(from.list[1:])
		m.got(task, x)
	case from != nil && from.closed:
		m.dry(task)
	case from != nil:
		m.got(task, m.let(other))
	default:
		m.always(task)
	}
}

// let: the task gives, and is in its next state.
func (m *model) let(task int) int {
	x := m.number[task]
	switch m.states[task] {
	case "F1":
		m.number[task]++
		if m.number[task] == m.cells {
			m.states[task] = "F2"
		}
	case "P3":
		m.states[task] = "P1"
	case "S3":
		m.number[task]++
		if m.number[task] == m.chunks {
			m.states[task] = "S4"
		}
	case "H3":
		m.states[task] = "H1"
	}
	return x
}

// got: the task takes, and is in its next state.
func (m *model) got(task, x int) {
	switch m.states[task] {
	case "P1":
		m.number[task], m.states[task] = x, "P2"
	case "H1":
		m.number[task], m.states[task] = x, "H2"
	case "S1":
		if x < m.next || m.waits[x] {
			m.wrong = append(m.wrong, fmt.Sprint("cell ", x, " comes twice"))
		}
		m.waits[x] = true
		for m.waits[m.next] {
			delete(m.waits, m.next)
			m.next++
		}
	case "V1":
		if m.woven[x] {
			m.wrong = append(m.wrong, fmt.Sprint("chunk ", x, " comes twice"))
		}
		m.woven[x] = true
	}
}

// dry: the task finds its duct closed and empty.
func (m *model) dry(task int) {
	switch m.states[task] {
	case "P1":
		m.states[task] = ""
		if slices.Max(m.states[1:1+m.workers]) == "" {
			m.shut("peeled")
		}
	case "S1":
		m.states[task] = "S2"
	case "H1":
		m.states[task] = ""
		if slices.Max(m.states[2+m.workers:2+2*m.workers]) == "" {
			m.shut("woven")
		}
	case "V1":
		m.states[task] = "V2"
	}
}

func (m *model) always(task int) {
	switch m.states[task] {
	case "F2":
		m.shut("jobs")
		m.states[task] = ""
	case "P2":
		m.states[task] = "P3"
	case "S2":
		m.states[task] = "S3"
		if m.refused {
			m.states[task] = "S4"
		}
	case "S4":
		m.shut("work")
		m.states[task] = ""
	case "H2":
		m.states[task] = "H3"
	case "V2":
		if m.next != m.cells || !m.refused && len(m.woven) != m.chunks {
			m.wrong = append(m.wrong, fmt.Sprintf("%d cells and %d chunks have come", m.next, len(m.woven)))
		}
		m.states[task] = ""
	}
}

func (m *model) shut(d string) {
	if m.pipes[d].closed {
		m.wrong = append(m.wrong, d+" is closed twice")
	}
	m.pipes[d].closed = true
}

func (m *model) inFlight() int {
	n := len(m.waits)
	for _, p := range m.pipes {
		n += len(p.list)
	}
	for _, state := range m.states {
		if state == "P2" || state == "P3" || state == "H2" || state == "H3" {
			n++
		}
	}
	return n
}

// modulo: the remainder from 0 to m - 1, also of a negative number.
func modulo(x, m int) int {
	return int(new(big.Int).Mod(big.NewInt(int64(x)), big.NewInt(int64(m))).Int64())
}

// play: the picks that the script tells, till none may be made.
func (m *model) play(script []int) *model {
	for {
		may := m.allThatMay()
		if len(may) == 0 {
			return m
		}
		task := may[0]
		if k := len(m.picks); k < len(script) {
			task = may[modulo(script[k], len(may))]
		}
		m.picks = append(m.picks, task)
		m.counts = append(m.counts, len(may))
		m.pick(task)
		m.most = max(m.most, m.inFlight())
	}
}

// history: what the run came to; Stuck, if some task has not ended.
func (m *model) history() api.History {
	ended := slices.Max(m.states) == ""
	return api.History{Picks: m.picks, Most: m.most, Ended: ended, Stuck: !ended}
}

// begins: whether the steps 1 to 3 let the tasks begin, and whether step 5 will be refused then.
func (g given) begins() (begun, refused bool) {
	b, _, e := frame.Read(g.raw())
	if e != api.OK || round.Check(g.c, g.s) != api.OK || b.Header.Left != g.c.Left || b.Header.Round < g.s.Next {
		return false, false
	}
	w, e := window.Open(g.s.Window, b.Header.Epoch, g.c.Span)
	if e != api.OK {
		return false, false
	}
	if len(g.tape) < 18 {
		return true, true
	}
	fresh, _, e := round.Sift(g.c, w, b)
	return true, len(must(fresh, e))+must(noise.Count(g.tape[:18], g.c.Num, g.c.Den, g.c.Noise)) > 256
}

// words: the run by the chapter's words; nil, if it isn't begun.
func (g given) words(script []int) *model {
	begun, refused := g.begins()
	if !begun {
		return nil
	}
	return newModel(g.c, len(g.cells), refused).play(script)
}

// bound: the chapter's words of Bound, for a right configuration.
func (g given) bound() int { return 5*len(g.cells) + 5*g.c.Chunks + 2*g.c.Workers + 6 }

// short: the beginning of a list, for what a test tells.
func short(list []int) string {
	if len(list) > 60 {
		return fmt.Sprint(list[:60], " and ", len(list)-60, " more")
	}
	return fmt.Sprint(list)
}

// checkRun: the run, held against the definition, against the words and against what the promises say of all runs.
func checkRun(t *testing.T, g given, script []int) (api.Outcome, *model) {
	t.Helper()
	o, h := g.run(script...)
	if want := g.mix(); !sameOutcome(o, want) {
		t.Errorf("%v, script %s: the outcome is %s; want %s", g, short(script), told(o), told(want))
	}
	m := g.words(script)
	if m == nil {
		if !sameHistory(h, api.History{Ended: true}) {
			t.Errorf("%v, not begun: the history is %+v", g, h)
		}
		return o, nil
	}
	want := m.history()
	if !sameHistory(h, want) {
		t.Errorf("%v, script %s: picks %s, most %d, ended %v; want %s, %d", g, short(script), short(h.Picks), h.Most, h.Ended, short(want.Picks), want.Most)
	}
	checkPromises(t, g, o, h)
	if len(m.wrong) > 0 {
		t.Errorf("%v, script %s: %q", g, short(script), m.wrong)
	}
	return o, m
}

// checkPromises: P22.3 and P22.4 of a run that was begun.
func checkPromises(t *testing.T, g given, o api.Outcome, h api.History) {
	t.Helper()
	if !h.Ended || h.Stuck || h.Late != 0 {
		t.Errorf("%v: ended %v, stuck %v, late %d", g, h.Ended, h.Stuck, h.Late)
	}
	bound := line.Bound(g.c, len(g.cells))
	if bound != g.bound() || len(h.Picks) > bound || g.c.Cap > 0 && o.Err == api.OK && len(h.Picks) != bound {
		t.Errorf("%v: %d picks, Bound is %d; want %d", g, len(h.Picks), bound, g.bound())
	}
	if h.Most > max(len(g.cells), g.c.Chunks) {
		t.Errorf("%v: %d in flight", g, h.Most)
	}
}

// someScript: a script of so many numbers of all sizes.
func someScript(r *rand.Rand, n int) []int {
	script := make([]int, n)
	for i := range script {
		switch r.Intn(4) {
		case 0:
			script[i] = int(r.Uint64())
		case 1:
			script[i] = r.Intn(300) - 150
		default:
			script[i] = r.Intn(5)
		}
	}
	return script
}
