package desk_test

import (
	"bytes"
	"crypto/sha256"
	"encoding/hex"
	"fmt"
	"math/big"
	"math/rand"
	"regexp"
	"slices"
	"strconv"
	"strings"
	"testing"

	"churn/api"
	"churn/cell"
	"churn/desk"
	"churn/frame"
	"churn/round"
	"churn/route"
)

// fewer: so many, or few of them where tests are to be short.
func fewer(n int) int {
	if testing.Short() {
		return n/8 + 1
	}
	return n
}

// some: so many bytes without a rule.
func some(n int, seed int64) []byte {
	p := make([]byte, n)
	rand.New(rand.NewSource(seed)).Read(p)
	return p
}

// word: bytes as a desk tells them.
func word(p []byte) string {
	if len(p) == 0 {
		return "-"
	}
	return hex.EncodeToString(p)
}

func lines(list ...string) string { return strings.Join(list, "\n") }

func master(hop int) []byte { return bytes.Repeat([]byte{byte(40 + hop)}, 32) }

func masters(hops int) (list [][]byte) {
	for i := range hops {
		list = append(list, master(i))
	}
	return list
}

// hop: the line that names a hop by this master key, with the numbers of one that adds no noise.
func hop(i int) string { return "hop " + word(master(i)) + " 2 400 0 1 0 2 3 1 2" }

// loudHop: one that adds two noise cells, if the tape begins with 255 255.
func loudHop(i int) string { return "hop " + word(master(i)) + " 2 400 1 1 2 2 3 1 2" }

// hops: lines that name so many.
func hops(n int) string {
	var list []string
	for i := range n {
		list = append(list, hop(i))
	}
	return lines(list...)
}

// opened: the lines behind which a cascade of so many hops is open.
func opened(n int) string { return lines(hops(n), "open") }

// nonce: that of client number k for hop number i.
func nonce(k, i int) string { return word([]byte{byte(k), byte(k >> 8), 15: byte(i)}) }

// payload: that of client number k.
func payload(k int) string { return word(fmt.Appendf(nil, "payload %d", k)) }

// send: the line by which client number k sends a payload through so many hops.
func send(hops, k int) string {
	line := "send " + payload(k)
	for i := range hops {
		line += " " + nonce(k, i)
	}
	return line
}

// cellOf: the cell that send makes for client number k in an epoch.
func cellOf(hops int, epoch int64, k int) []byte {
	m := &model{epoch: epoch}
	for line := range strings.SplitSeq(lines(opened(hops), send(hops, k)), "\n") {
		m.line(line)
	}
	return m.cells[0]
}

// loud: a tape that tells as much noise as there can be.
func loud(n int, seed int64) string { return "ffff" + word(some(n-2, seed)) }

// long: a tape that suffices for a few cells, and tells no noise.
const long = "0000" + "11223344556677889900aabbccddeeff" + "0102030405060708090a0b0c0d0e0f101112131415161718191a1b1c1d1e1f20" + "0102030405060708090a0b0c0d0e0f101112131415161718191a1b1c1d1e1f20"

// play: the line of a go by an engine, with a script, and with one tape so often.
func play(engine, script string, times int, tape string) string {
	return "go " + engine + " " + script + strings.Repeat(" "+tape, times)
}

// mixed: a go by the definition.
func mixed(hops int) string { return play("mix", "-", hops, long) }

// engines: their words.
var engines = []string{"mix", "crew", "line"}

// answers: what a desk answers, line by line.
func answers(text string) []string {
	all := desk.Run(text)
	if all == "" {
		return nil
	}
	return strings.Split(strings.TrimSuffix(all, "\n"), "\n")
}

// check: whether a text is answered so, by the desk, and by the chapter's words too.
func check(t *testing.T, what, text, want string) {
	t.Helper()
	if got := desk.Run(text); got != want {
		t.Errorf("%s:\n%s\nanswers:\n%s\nwant:\n%s", what, short(text), short(got), short(want))
	}
	if by := byWords(text); by != want {
		t.Errorf("%s: the test itself is wrong: by the chapter's words:\n%s\nanswers:\n%s\nnot:\n%s", what, short(text), short(by), short(want))
	}
}

// says: whether the lines ahead are answered in some way, and those behind them just so: line and answer by turns. A line that has no answer has the answer "".
func says(t *testing.T, what, ahead string, pairs ...string) {
	t.Helper()
	text, want := []string{ahead}, byWords(ahead)
	for i := 0; i < len(pairs); i += 2 {
		text = append(text, pairs[i])
		if pairs[i+1] != "" {
			want += pairs[i+1] + "\n"
		}
	}
	check(t, what, lines(text...), want)
}

// same: whether a text is answered as the chapter's words say; it answers the answers.
func same(t *testing.T, what, text string) []string {
	t.Helper()
	check(t, what, text, byWords(text))
	return answers(text)
}

// short: a text with its long lines cut, and bytes that can't be seen told.
func short(text string) string {
	var list []string
	for line := range strings.SplitSeq(text, "\n") {
		line = strings.Trim(strconv.Quote(line), `"`)
		if len(line) > 120 {
			line = line[:80] + " .. " + line[len(line)-20:]
		}
		list = append(list, "\t"+line)
	}
	if len(list) > 70 {
		list = append(list[:40:40], append([]string{"\t.."}, list[len(list)-25:]...)...)
	}
	return lines(list...)
}

// A model is a desk by the chapter's words, over the round's definition alone: no cascade, no server.
type model struct {
	hops   []api.Config
	opened []api.Config
	states []api.State
	round  int64
	epoch  int64
	cells  [][]byte
	batch  []int
	last   []byte
	is     bool // is there a last output?
}

// byWords: what the chapter says that a text is answered.
func byWords(text string) string {
	if len(text) > 65536 {
		return "error 1\n"
	}
	m, list := &model{}, []string{}
	for _, line := range strings.Split(text, "\n") {
		if answer, has := m.line(line); has {
			list = append(list, answer+"\n")
		}
	}
	return strings.Join(list, "")
}

func (m *model) line(line string) (answer string, has bool) {
	words := slices.DeleteFunc(strings.Split(line, " "), func(w string) bool { return w == "" })
	if len(words) == 0 || words[0][0] == '#' {
		return "", false
	}
	answer, e := m.command(words)
	if e != api.OK {
		answer = fmt.Sprint("error ", int(e))
	}
	return answer, true
}

// forms: what the words behind each command's own stand for, a letter each: b bytes, n a number, k a nonce, s a script, e an engine. A star: the letter ahead of it so often as one likes.
var forms = map[string]string{"hop": "bnnnnnnnnn", "open": "", "at": "nn", "send": "bk*", "raw": "b", "again": "n", "go": "esb*", "show": "", "sum": ""}

// patterns: how a word must look to stand for something.
var patterns = map[byte]*regexp.Regexp{
	'n': regexp.MustCompile(`^[0-9]{1,19}$`), 'b': regexp.MustCompile(`^(-|([0-9a-fA-F]{2})+)$`), 'k': regexp.MustCompile(`^[0-9a-fA-F]{32}$`),
	's': regexp.MustCompile(`^(-|[0-9]{1,19}(,[0-9]{1,19})*)$`), 'e': regexp.MustCompile(`^(mix|crew|line)$`),
}

// formOf: the letters for so many words; false: there must be more of them, or fewer.
func formOf(form string, words int) (string, bool) {
	if before, _, starred := strings.Cut(form, "*"); starred {
		for len(before)-1 < words {
			before += before[len(before)-1:]
		}
		return before[:words], words >= len(form)-2
	}
	return form, words == len(form)
}

var most = new(big.Int).Lsh(big.NewInt(1), 62)

// number: what digits stand for; false: more than 2^62.
func number(digits string) (int64, bool) {
	n, _ := new(big.Int).SetString(digits, 10)
	return n.Int64(), n.Cmp(most) <= 0
}

// stands: whether a word is what its letter says.
func stands(letter byte, w string) bool {
	if !patterns[letter].MatchString(w) {
		return false
	}
	if (letter == 'n' || letter == 's') && w != "-" {
		for _, digits := range strings.Split(w, ",") {
			if _, fits := number(digits); !fits {
				return false
			}
		}
	}
	return true
}

func (m *model) command(words []string) (string, api.Errno) {
	form, is := forms[words[0]]
	letters, fits := formOf(form, len(words)-1)
	if !is || !fits || words[0] == "go" && !stands('e', words[1]) {
		return "", 260
	}
	for i := range letters {
		if !stands(letters[i], words[1+i]) {
			return "", 261
		}
	}
	var numbers []int64
	var lists [][]byte
	for i, w := range words[1:] {
		n, p := int64(0), []byte(nil)
		if letters[i] == 'n' {
			n, _ = number(w)
		} else if letters[i] != 's' && letters[i] != 'e' {
			p, _ = hex.DecodeString(strings.Trim(w, "-"))
		}
		numbers, lists = append(numbers, n), append(lists, p)
	}
	return m.do(words[0], numbers, lists)
}

func (m *model) do(name string, numbers []int64, lists [][]byte) (string, api.Errno) {
	switch name {
	case "hop":
		return m.hop(lists[0], numbers[1:])
	case "open":
		return m.open()
	case "at":
		m.round, m.epoch = numbers[0], numbers[1]
		return "ok", 0
	case "send":
		return m.send(lists[0], lists[1:])
	case "raw":
		if m.opened == nil {
			return "", 262
		}
		return m.add(lists[0]), 0
	case "again":
		if numbers[0] >= int64(len(m.cells)) {
			return "", 262
		}
		m.batch = append(m.batch, int(numbers[0]))
		return fmt.Sprint("cell ", numbers[0]), 0
	case "go":
		return m.play(lists[2:])
	case "show":
		return m.show()
	}
	if !m.is {
		return "", 262
	}
	return fmt.Sprintf("%x", sha256.Sum256(m.last)), 0
}

func (m *model) hop(key []byte, n []int64) (string, api.Errno) {
	if len(m.hops) == 8 {
		return "", 1
	}
	m.hops = append(m.hops, api.Config{Master: key, Span: int(n[0]), Room: int(n[1]), Num: int(n[2]), Den: int(n[3]), Noise: int(n[4]), Chunks: int(n[5]), Workers: int(n[6]), Cap: int(n[7]), Shards: int(n[8])})
	return "ok", 0
}

func (m *model) open() (string, api.Errno) {
	if len(m.hops) == 0 {
		return "", 262
	}
	cs := slices.Clone(m.hops)
	for i := range cs {
		cs[i].Left = len(cs) - i
		if e := round.Check(cs[i], api.State{}); e != 0 {
			return "", e
		}
	}
	*m = model{hops: m.hops, opened: cs, states: make([]api.State, len(cs)), round: m.round, epoch: m.epoch}
	return "ok", 0
}

func (m *model) add(c []byte) string {
	m.cells = append(m.cells, c)
	m.batch = append(m.batch, len(m.cells)-1)
	return fmt.Sprint("cell ", len(m.cells)-1)
}

func (m *model) send(payload []byte, nonces [][]byte) (string, api.Errno) {
	if m.opened == nil {
		return "", 262
	}
	if len(nonces) != len(m.opened) {
		return "", 260
	}
	var keys [][]byte
	var list [][16]byte
	for i, c := range m.opened {
		key, e := route.Key(c.Master, m.epoch)
		if e != 0 {
			return "", e
		}
		keys, list = append(keys, key), append(list, [16]byte(nonces[i]))
	}
	c, e := route.Wrap(keys, list, payload)
	if e != 0 {
		return "", e
	}
	return m.add(c), 0
}

func (m *model) play(tapes [][]byte) (string, api.Errno) {
	if m.opened == nil {
		return "", 262
	}
	if len(tapes) != len(m.opened) {
		return "", 260
	}
	b := api.Batch{Header: api.Header{Round: m.round, Epoch: m.epoch, Left: len(m.opened)}}
	for _, n := range m.batch {
		b.Cells = append(b.Cells, m.cells[n])
	}
	raw, e := frame.Pack(b)
	if e != 0 {
		return "", e
	}
	var list []string
	m.batch, m.is = nil, true
	m.round++
	for i, c := range m.opened {
		o := round.Mix(c, m.states[i], raw, tapes[i])
		if o.Err != 0 {
			m.last, m.is = nil, false
			list = append(list, fmt.Sprint("error ", int(o.Err)))
			break
		}
		r := o.Report
		list = append(list, fmt.Sprint(r.In, r.Malformed, r.Replays, r.Noise, r.Out))
		m.states[i], raw, m.last = o.State, o.Out, o.Out
	}
	return strings.Join(list, "; "), 0
}

func (m *model) show() (string, api.Errno) {
	if !m.is {
		return "", 262
	}
	b, _, e := frame.Read(m.last)
	if e != 0 || b.Header.Left != 0 {
		return "", max(e, 212)
	}
	var list []string
	for _, c := range b.Cells {
		p, is, e := cell.Open(c)
		if e != 0 {
			return "", e
		}
		if is {
			list = append(list, word(p))
		}
	}
	if len(list) == 0 {
		return "none", 0
	}
	return strings.Join(list, " "), 0
}
