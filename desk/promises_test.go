package desk_test

import (
	"fmt"
	"math/rand"
	"regexp"
	"slices"
	"strconv"
	"strings"
	"testing"

	"churn/desk"
)

// A lot draws texts: most often such lines as can be taken by then.
type lot struct{ *rand.Rand }

func newLot(seed int64) lot { return lot{rand.New(rand.NewSource(seed))} }

// one: one of these.
func (l lot) one(list ...string) string { return list[l.Intn(len(list))] }

func (l lot) bytes(n int) string { return word(some(n, l.Int63())) }

// hop: most often a right one; seldom one that open refuses.
func (l lot) hop(n int) string {
	list := []any{"hop", word(master(n)), 1 + l.Intn(3), 6 + l.Intn(40), l.Intn(3), 2, l.Intn(4), 1 + l.Intn(5), 1 + l.Intn(6), l.Intn(3), 1 + l.Intn(6)}
	if l.Intn(40) == 0 {
		list[2+l.Intn(9)] = l.Intn(2) * 5000
	}
	return strings.Trim(fmt.Sprint(list), "[]")
}

// send: a new cell, or one that may have been there before.
func (l lot) send(hops int) string {
	if l.Intn(20) == 0 {
		hops += l.Intn(3) - 1
	}
	line := send(hops, l.Intn(60))
	if l.Intn(6) == 0 {
		_, nonces, _ := strings.Cut(line[5:], " ")
		line = "send " + l.bytes(l.Intn(50)) + " " + nonces
	}
	return line
}

// raw: most often a cell without a rule; seldom bytes that are none.
func (l lot) raw() string {
	if l.Intn(12) == 0 {
		return "raw " + l.bytes(l.Intn(400))
	}
	return "raw " + l.bytes(320)
}

// at: most often a round and an epoch that can be played.
func (l lot) at(m *model) string {
	round, epoch := m.round+int64(l.Intn(4)), m.epoch+int64(l.Intn(3)/2)
	switch l.Intn(10) {
	case 0:
		round = max(0, round-5)
	case 1:
		epoch = max(0, epoch-int64(l.Intn(4)))
	case 2:
		epoch += int64(l.Intn(2000))
	}
	return fmt.Sprint("at ", min(round, 1<<62), " ", min(epoch, 1<<62))
}

func (l lot) script() string {
	if l.Intn(3) == 0 {
		return "-"
	}
	list := []string{strconv.Itoa(l.Intn(99))}
	for range l.Intn(40) {
		list = append(list, strconv.FormatInt(l.Int63()>>(1+l.Intn(62)), 10))
	}
	return strings.Join(list, ",")
}

// play: most often with a tape for each hop that suffices.
func (l lot) play(m *model) string {
	line := "go " + l.one(engines...) + " " + l.script()
	hops := len(m.opened)
	if l.Intn(20) == 0 {
		hops += l.Intn(3) - 1
	}
	for range hops {
		length := 60 + 3*len(m.batch) + l.Intn(100)
		if l.Intn(25) == 0 {
			length = l.Intn(30)
		}
		line += " " + l.bytes(length)
	}
	return line
}

// spoilt: the line with a word less, a word more, a letter less, another letter, or blanks at some place.
func (l lot) spoilt(line string) string {
	words := strings.Split(line, " ")
	at, place := l.Intn(len(words)), l.Intn(len(line))
	switch l.Intn(6) {
	case 0:
		return strings.Join(slices.Delete(words, at, at+1), " ")
	case 1:
		return strings.Join(slices.Insert(words, at, l.one(words...)), " ")
	case 2:
		return line[:place] + line[place+1:]
	case 3:
		return line[:place] + l.one("-", "x", "#", ",", "0", "9", "\r", "\t", "A", "g", "\xff") + line[place+1:]
	case 4:
		words[at] = l.one("-", "0", "4611686018427387905", "1,2", "00", "#", "?")
		return strings.Join(words, " ")
	}
	return strings.Repeat(" ", l.Intn(3)) + strings.Join(words, strings.Repeat(" ", 1+l.Intn(3))) + strings.Repeat(" ", l.Intn(3))
}

// line: one that suits what the lines so far have left.
func (l lot) line(m *model) string {
	hops := len(m.opened)
	if n := len(m.hops); hops == 0 {
		return []string{l.hop(n), l.hop(n), l.hop(n), "open", "open", "show", "again 0", "at 3 5"}[l.Intn(8)]
	}
	switch n := l.Intn(100); {
	case n < 38:
		return l.send(hops)
	case n < 48:
		return fmt.Sprint("again ", l.Intn(len(m.cells)+1))
	case n < 54:
		return l.raw()
	case n < 72:
		return l.play(m)
	case n < 80:
		return "show"
	case n < 86:
		return "sum"
	case n < 93:
		return l.at(m)
	case n < 95:
		return l.hop(len(m.hops) % 5)
	case n < 97:
		return "open"
	}
	return l.one("", "  ", "# send", "#", "x", "ok", "go", "stop")
}

// text: so many lines of all kinds, and what each is answered by the chapter's words: "" where it has no answer.
func (l lot) text(n int) (all, told []string) {
	m := &model{}
	for range n {
		line := l.line(m)
		if line != "" && l.Intn(16) == 0 {
			line = l.spoilt(line)
		}
		answer, _ := m.line(line)
		all, told = append(all, line), append(told, answer)
	}
	return all, told
}

// P26.1: texts of all kinds, each answered as the chapter's words say.
func TestTexts(t *testing.T) {
	counts := map[string]int{}
	for seed := range int64(fewer(140)) {
		all, told := newLot(2620 + seed).text(60)
		check(t, fmt.Sprint("text ", seed), lines(all...), byWords(lines(all...)))
		for i, line := range all {
			name, _, _ := strings.Cut(line, " ")
			counts[name]++
			counts[told[i]]++
			if strings.Contains(told[i], "; error") {
				counts["refused behind the first hop"]++
			}
		}
	}
	for _, what := range []string{"ok", "none", "error 3", "error 64", "error 160", "error 161", "error 210", "error 211", "error 260", "error 261", "error 262", "refused behind the first hop", "hop", "open", "at", "send", "raw", "again", "go", "show", "sum"} {
		if counts[what] < 5 && !testing.Short() {
			t.Errorf("the texts are too much alike: %s: %d", what, counts[what])
		}
	}
}

// P26.1: a command that is refused changes nothing, but a go that reached the cascade: the other lines are answered as if it weren't there.
func TestRefusedChangesNothing(t *testing.T) {
	left := 0
	for seed := range int64(fewer(80)) {
		all, told := newLot(2900 + seed).text(60)
		var rest, want []string
		for i, line := range all {
			word, _, _ := strings.Cut(strings.TrimLeft(line, " "), " ")
			ahead := slices.Contains([]string{"error 260", "error 261", "error 262", "error 62", "error 63", "error 64"}, told[i])
			if ahead || word != "go" && strings.HasPrefix(told[i], "error") {
				left++
				continue
			}
			rest = append(rest, line)
			if told[i] != "" {
				want = append(want, told[i]+"\n")
			}
		}
		check(t, fmt.Sprint("text ", seed), lines(rest...), strings.Join(want, ""))
	}
	if left < 100 && !testing.Short() {
		t.Errorf("%d lines were left out", left)
	}
}

// checkBegins: whether Run of both texts begins with Run of the first.
func checkBegins(t *testing.T, first, second string) {
	t.Helper()
	if one, both := desk.Run(first), desk.Run(first+"\n"+second); !strings.HasPrefix(both, one) {
		t.Errorf("%s\nanswers:\n%s\nwith more behind it:\n%s", short(first), short(one), short(both))
	}
}

// P26.2: a text cut at each of its line ends: what stands ahead of the cut is answered the same, whatever stands behind it.
func TestLineByLine(t *testing.T) {
	for seed := range int64(fewer(12)) {
		l := newLot(3000 + seed)
		all, _ := l.text(50)
		text := desk.Run(lines(all...))
		other, _ := l.text(20)
		for cut := range len(all) + 1 {
			first := desk.Run(lines(all[:cut]...))
			if !strings.HasPrefix(text, first) {
				t.Errorf("text %d cut at %d", seed, cut)
			}
			if cut%7 == 0 {
				checkBegins(t, lines(all[:cut]...), lines(other...))
				checkBegins(t, lines(all[:cut]...)+"\n", lines(other...))
			}
		}
	}
	for _, second := range []string{"", "\n", "#", "show", "open", "x", hop(0)} {
		for _, first := range append(states(), "#", " ", "x", "show\n", "go mix", "raw 0") {
			checkBegins(t, first, second)
		}
	}
}

// P26.2: both together just as long as a text may be; and its bound: with one byte more it is error 1 alone.
func TestLineByLineAtTheLimit(t *testing.T) {
	all, _ := newLot(3100).text(40)
	first := lines(all...)
	for _, c := range []string{"\n", " ", "#", "x", "show\n"} {
		rest := 65536 - len(first) - 1
		second := strings.Repeat(c, rest)[:rest]
		checkBegins(t, first, second)
		checkBegins(t, second, first)
		check(t, "one byte more", first+"\n"+second+c[:1], "error 1\n")
		if got := desk.Run(first + "\n" + second); len(got) < len(desk.Run(first)) || got == "error 1\n" {
			t.Errorf("%q behind it: %s", c, short(got))
		}
	}
}

// goLine: a go line that is one as far as engine and script go.
var goLine = regexp.MustCompile(`(?m)^( *go +)(?:mix|crew|line)( +)(?:-|[0-9]{1,18}(?:,[0-9]{1,18})*)( |$)`)

// by: the text with another engine and another script in each go line.
func by(text string, engine, script func() string) string {
	return goLine.ReplaceAllStringFunc(text, func(line string) string {
		parts := goLine.FindStringSubmatch(line)
		return parts[1] + engine() + parts[2] + script() + parts[3]
	})
}

// P26.3 and P2: texts with other engines and other scripts in their go lines have the same answers, those of the round's definition.
func TestNoEngineShows(t *testing.T) {
	replaced := 0
	for seed := range int64(fewer(30)) {
		l := newLot(3200 + seed)
		all, _ := l.text(50)
		text := lines(all...)
		want := byWords(text)
		replaced += len(goLine.FindAllString(text, -1))
		for _, engine := range engines {
			for _, script := range []string{"-", "0", scripts[l.Intn(len(scripts))]} {
				check(t, engine+" "+script, by(text, func() string { return engine }, func() string { return script }), want)
			}
		}
		for range 3 {
			check(t, "by chance", by(text, func() string { return l.one(engines...) }, l.script), want)
		}
	}
	if replaced < 100 && !testing.Short() {
		t.Errorf("%d go lines", replaced)
	}
}

// P26.3: nor do a hop's workers, capacity and shards show.
func TestNoHandsShow(t *testing.T) {
	hop := func(i int, hands string) string { return "hop " + word(master(i)) + " 2 400 1 1 3 4 " + hands }
	text := func(engine, hands string) string {
		return lines(hop(0, hands), hop(1, hands), "open", send(2, 1), send(2, 2), send(2, 1), "raw "+word(some(320, 2621)), send(2, 3), play(engine, "3,9,1", 2, loud(150, 2622)), "show", "sum", "again 1", send(2, 4), play(engine, "-", 2, loud(150, 2623)), "show", "sum")
	}
	want := byWords(text("mix", "1 0 1"))
	for _, hands := range []string{"1 0 1", "64 0 64", "1 1024 5", "64 1024 1", "7 2 3", "2 1 64"} {
		for _, engine := range engines {
			check(t, engine+" "+hands, text(engine, hands), want)
		}
	}
}

// P26.4: as many answers as there are lines that have one, and each a text of one line.
func TestAsManyAnswers(t *testing.T) {
	has := regexp.MustCompile(`(?m)^ *[^ #\n]`)
	count := func(text string) {
		t.Helper()
		got := desk.Run(text)
		if got != "" && !strings.HasSuffix(got, "\n") || strings.Contains("\n"+got, "\n\n") {
			t.Errorf("an answer without a text or a line end: %q", short(got))
		}
		if n, want := strings.Count(got, "\n"), len(has.FindAllString(text, -1)); n != want {
			t.Errorf("%d answers to %d lines:\n%s\nanswers:\n%s", n, want, short(text), short(got))
		}
	}
	for seed := range int64(fewer(60)) {
		all, _ := newLot(3300 + seed).text(60)
		count(lines(all...))
		count(lines(all...) + "\n")
	}
	for seed := range int64(fewer(2000)) {
		count(newLot(3400 + seed).letters())
	}
	for _, text := range append(states(), "", "\n", "#", " ", "x", "\r", "show\r\nsum\r\n", strings.Repeat("x\n", 32768), strings.Repeat("\n", 65536)) {
		count(text)
	}
}

// letters: a text of pieces without a rule, and of any bytes.
func (l lot) letters() string {
	var text strings.Builder
	for range l.Intn(60) {
		switch l.Intn(4) {
		case 0:
			text.WriteString(l.one("hop", "open", "at", "send", "raw", "again", "go", "show", "sum", "mix", "crew", "line"))
		case 1:
			text.WriteString(l.one(" ", " ", "\n", "  ", "\n\n"))
		case 2:
			text.WriteString(l.one("-", "0", "1", "00", "1,2", ",", "#", word(master(0)), nonce(1, 1), long))
		default:
			text.WriteByte(byte(l.Intn(256)))
		}
	}
	return text.String()
}

// P26.1 and rule 1: texts of any bytes end, and are answered as the chapter's words say.
func TestAnyBytes(t *testing.T) {
	for seed := range int64(fewer(4000)) {
		text := newLot(9000 + seed).letters()
		check(t, fmt.Sprint("letters ", seed), text, byWords(text))
	}
	for seed := range int64(fewer(20)) {
		text := string(some(65536, seed))
		check(t, "any bytes", text, byWords(text))
	}
}
