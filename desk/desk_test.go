package desk_test

import (
	"fmt"
	"slices"
	"strings"
	"testing"

	"churn/desk"
)

// P26.1: the chapter's example, and DOC.md's of a desk.
func TestExamples(t *testing.T) {
	check(t, "the chapter's", "at 7 0\nhop 00 1 10 0 1 0 1 1 0 1\nopen\nshow\nagain 0\nhop\nat x 1\n", "ok\nok\nerror 210\nerror 262\nerror 262\nerror 260\nerror 261\n")
	says(t, "DOC.md's", "", "at 7 0", "ok", "show", "error 262")
}

// P26.1: a net from its beginning to its end.
func TestNet(t *testing.T) {
	for _, engine := range engines {
		says(t, engine, "",
			"# two hops", "", hop(0), "ok", hop(1), "ok", "open", "ok", "at 3 5", "ok",
			"send 6f6e65 "+nonce(1, 0)+" "+nonce(1, 1), "cell 0",
			"send - "+nonce(2, 0)+" "+nonce(2, 1), "cell 1",
			"raw "+strings.Repeat("00", 320), "cell 2",
			"again 0", "cell 0",
			play(engine, "5,3,1", 2, long), "4 1 1 0 2; 2 0 0 0 2",
			"show", "6f6e65 -", // each server turns the two about
			"again 1", "cell 1", "again 2", "cell 2",
			play(engine, "-", 2, long), "2 1 1 0 0; 0 0 0 0 0",
			"show", "none")
	}
}

// P26.1: a text of just as many bytes as there may be, and of one more: of commands, of a remark, of blanks, of line ends.
func TestLimit(t *testing.T) {
	for _, x := range []struct {
		what, text, want string
	}{
		{"commands", strings.Repeat("show\n", 13107) + "#", strings.Repeat("error 262\n", 13107)},
		{"commands up to the last byte", "    " + strings.Repeat("sum\n", 16383), strings.Repeat("error 262\n", 16383)},
		{"a remark", strings.Repeat("#", 65536), ""},
		{"blanks", strings.Repeat(" ", 65536), ""},
		{"line ends", strings.Repeat("\n", 65536), ""},
		{"one word", strings.Repeat("a", 65536), "error 260\n"},
		{"bytes of no letter", strings.Repeat("\xff", 65536), "error 260\n"},
		{"a command behind blanks", strings.Repeat(" ", 65532) + "open", "error 262\n"},
		{"words", strings.Repeat("open", 1) + strings.Repeat(" x", 32766), "error 260\n"},
		{"bytes", "raw " + strings.Repeat("ab", 32766), "error 262\n"},
	} {
		if len(x.text) != 65536 {
			t.Fatalf("%s: %d bytes", x.what, len(x.text))
		}
		check(t, x.what, x.text, x.want)
		for _, more := range []string{"\n", " ", "#", "show", "\x00"} {
			check(t, x.what+" and more", x.text+more, "error 1\n")
		}
		check(t, x.what+" behind more", "\n"+x.text, "error 1\n")
		check(t, x.what+" and one byte less", x.text[1:], byWords(x.text[1:]))
	}
	check(t, "a megabyte", strings.Repeat("show\n", 1<<18), "error 1\n")
}

// P26.1: lines without words and remarks have no answer; each other line has one, the last one too, with and without a line end behind it.
func TestLines(t *testing.T) {
	for text, want := range map[string]string{
		"":                               "",
		"\n":                             "",
		"\n\n\n":                         "",
		" ":                              "",
		"   \n \n":                       "",
		"#":                              "",
		"# show":                         "",
		"#show\n##\n# \n":                "",
		"  # show":                       "",
		"  #\nshow":                      "error 262\n",
		"show":                           "error 262\n",
		"show\n":                         "error 262\n",
		"show\n\n":                       "error 262\n",
		"\nshow":                         "error 262\n",
		"show\nsum":                      "error 262\nerror 262\n",
		"show\n\n\nsum\n":                "error 262\nerror 262\n",
		"show\n#\nsum # x\nopen":         "error 262\nerror 260\nerror 262\n",
		"at 1 2":                         "ok\n",
		"at 1 2\n":                       "ok\n",
		"at 1 2 ":                        "ok\n",
		" at 1 2":                        "ok\n",
		"    at   1     2    \n":         "ok\n",
		"at\n1 2":                        "error 260\nerror 260\n",
		"at 1 2 #":                       "error 260\n",
		"at # 2":                         "error 261\n",
		"at 1 #2":                        "error 261\n",
		"a#":                             "error 260\n",
		"show #":                         "error 260\n",
		"show\x00":                       "error 260\n",
		"\x00":                           "error 260\n",
		"\x00#":                          "error 260\n",
		"at 1 2\nat 1 2\nat 1 2\nat 1 2": "ok\nok\nok\nok\n",
	} {
		check(t, "lines", text, want)
	}
}

// P26.1: the blank alone parts words and byte 10 alone parts lines: any other byte belongs to its word.
func TestOtherBytes(t *testing.T) {
	for _, c := range []string{"\r", "\t", "\v", "\f", "\x00", "\x1c", "\x85", "\xa0", "\u0085", "\u00a0", "\u2028", "\u2003", "\u3000", "\xff", "\xe3\x80"} {
		for text, want := range map[string]string{
			c:                      "error 260\n",
			c + c + "\n" + c:       "error 260\nerror 260\n",
			" " + c:                "error 260\n",
			c + "# show":           "error 260\n",
			"#" + c + "show":       "",
			"show" + c:             "error 260\n",
			"show " + c:            "error 260\n",
			"show" + c + "\nshow":  "error 260\nerror 262\n",
			"show\n" + c + "show":  "error 262\nerror 260\n",
			"show" + c + "sum":     "error 260\n",
			"at" + c + "1 2":       "error 260\n",
			"at 1" + c + "2":       "error 260\n",
			"at 1" + c + " 2":      "error 261\n",
			"at 1 2" + c:           "error 261\n",
			"at 1 " + c + "2\nsum": "error 261\nerror 262\n",
			"at 1 2 " + c:          "error 260\n",
			"raw 00" + c:           "error 261\n",
			"raw " + c:             "error 261\n",
			"raw 0" + c:            "error 261\n",
			"go mix" + c + " -":    "error 260\n",
			"go mix -" + c:         "error 261\n",
			"go mix 1," + c + "2":  "error 261\n",
			"go mix - 00" + c:      "error 261\n",
		} {
			check(t, fmt.Sprintf("%q", c), text, want)
		}
	}
}

// P26.1: first words that are no commands.
func TestNoCommands(t *testing.T) {
	for _, w := range []string{"x", "Hop", "OPEN", "At", "opens", "ope", "o", "-", "0", "go,", "sho", "showsum", "error", "ok", "cell", "mix", "play", "put", "keep", "nil", "send-", "raw=", "\"show\"", "//", ";", ">#"} {
		check(t, w, w, "error 260\n")
		check(t, w+" with words", w+" 1 2 x - 00\n"+w+" "+w, "error 260\nerror 260\n")
	}
	for name := range forms {
		for i := range name {
			check(t, "a letter less", name[:i]+name[i+1:], byWords(name[:i]+name[i+1:]))
			check(t, "a great letter", name[:i]+strings.ToUpper(name[i:i+1])+name[i+1:], "error 260\n")
		}
		check(t, "twice", name+name, "error 260\n")
	}
}

// good: words that stand for what the letter says.
func good(letter byte) string {
	return map[byte]string{'b': "00ff", 'n': "1", 'k': strings.Repeat("11", 16), 's': "1,2", 'e': "mix"}[letter]
}

// lineOf: the command with so many good words behind its own.
func lineOf(name string, words int) string {
	letters, _ := formOf(forms[name], words)
	line := name
	for i := range words {
		if i < len(letters) {
			line += " " + good(letters[i])
		} else {
			line += " 1"
		}
	}
	return line
}

// states: texts behind which a desk has nothing, a hop, a cascade, a cascade with cells, a last output.
func states() []string {
	net := lines(opened(2), send(2, 1), send(2, 2))
	return []string{"", hop(0), opened(1), opened(2), net, lines(net, mixed(2)), lines(net, mixed(2), send(2, 3)), lines(net, play("mix", "-", 2, "-"))}
}

// P26.1: each command with any number of words: ErrWord, if there is one too few or one too many, whatever the desk has.
func TestNumberOfWords(t *testing.T) {
	for _, ahead := range states() {
		var misfits []string
		for name, form := range forms {
			for words := range 16 {
				line := lineOf(name, words)
				if _, fits := formOf(form, words); !fits {
					misfits = append(misfits, line, "error 260")
				} else if got := same(t, line, lines(ahead, line)); name != "send" && name != "go" && got[len(got)-1] == "error 260" {
					t.Errorf("%s: %v", line, got)
				}
			}
		}
		says(t, "too few words and too many", ahead, misfits...)
	}
}

// P26.1: ErrWord ahead of ErrNumber: too few words or too many, and such as stand for nothing.
func TestErrWordFirst(t *testing.T) {
	for _, ahead := range states() {
		var pairs []string
		for name, form := range forms {
			for words := range 14 {
				if _, fits := formOf(form, words); !fits {
					pairs = append(pairs, name+strings.Repeat(" ?", words), "error 260")
				}
				if _, fits := formOf(form, words+1); !fits {
					pairs = append(pairs, lineOf(name, words)+" 1,", "error 260")
				}
			}
		}
		says(t, "bad words, not as many as wanted", ahead, pairs...)
		says(t, "engines", ahead, "go x -", "error 260", "go x ?", "error 260", "go ? ? ?", "error 260", "go Mix ?", "error 260", "go lines - ?", "error 260", "go - - -", "error 260",
			"go 0 1 00", "error 260", "go mix", "error 260", "go x", "error 260", "go", "error 260", "go crew ?", "error 261", "go line ?", "error 261", "go mix ?", "error 261")
	}
}

// wrong: words that don't stand for what the letter says.
func wrong(letter byte) []string {
	return map[byte][]string{
		'n': {"-", "x", "-1", "+1", "1.0", "1e3", "0x1", "1_0", "1,2", ",", "00000000000000000000", "4611686018427387905", "9223372036854775808", "18446744073709551617", "9999999999999999999", "\u0661", "1\x00", "a", "\"1\"", "12345678901234567890123"},
		'b': {"0", "000", "x", "0x", "0g", "g0", "--", "-00", "00-", "+1", "1+", "-1", "00,00", "0x00", "0_", "_0", "000g", "0G", "\xff\xff", "\u00e9", "00\t\t"},
		'k': {"-", "00", strings.Repeat("00", 15), strings.Repeat("00", 17), strings.Repeat("00", 32), strings.Repeat("0", 31), strings.Repeat("0", 33), strings.Repeat("00", 15) + "0g", strings.Repeat("00", 15) + "+1", "mix"},
		's': {",", "1,", ",1", "1,,2", "--", "-,1", "1,-", "-1", "1,-1", "+1", "1,x", "x", "1;2", "1.2", "4611686018427387905", "1,4611686018427387905", "4611686018427387905,1", "00000000000000000001", "1,00000000000000000001", "0x1", "1_0", "a,b"},
		'e': {"-", "x", "mi", "mixx", "MIX", "0", "by"},
	}[letter]
}

// P26.1: at each place of each command each word that stands for nothing there: ErrNumber (of an engine ErrWord), ahead of what the command lists, whatever the desk has; and nothing is changed.
func TestErrNumber(t *testing.T) {
	var pairs []string
	for name, words := range map[string]int{"hop": 10, "at": 2, "send": 3, "raw": 1, "again": 1, "go": 4} {
		letters, _ := formOf(forms[name], words)
		for i := range letters {
			for _, w := range wrong(letters[i]) {
				list := strings.Split(lineOf(name, words), " ")
				list[1+i] = w
				pairs = append(pairs, strings.Join(list, " "), map[bool]string{true: "error 260", false: "error 261"}[letters[i] == 'e'])
			}
		}
	}
	for _, ahead := range states() {
		says(t, "words that stand for nothing", ahead, slices.Concat(pairs, []string{"show", answerTo(ahead, "show"), "sum", answerTo(ahead, "sum"), "again 0", answerTo(ahead, "again 0")})...)
	}
}

// answerTo: what the line is answered behind the lines ahead, by the chapter's words.
func answerTo(ahead, line string) string {
	all := byWords(lines(ahead, line))
	return strings.TrimSuffix(strings.TrimPrefix(all, byWords(ahead)), "\n")
}

// P26.1: ErrNumber ahead of each error that a command lists.
func TestErrNumberFirst(t *testing.T) {
	says(t, "hop behind eight", hops(8), strings.Replace(hop(8), " 400 ", " x ", 1), "error 261", hop(8), "error 1", hop(8)+" 1", "error 260")
	says(t, "send, no cascade", "", "send 0 "+nonce(1, 1), "error 261", "send 00 "+nonce(1, 1)[1:], "error 261", "send 00", "error 262", "send 00 "+nonce(1, 1), "error 262", "send", "error 260")
	says(t, "send, not as many nonces", opened(2), "send 0", "error 261", "send 00 0", "error 261", "send 00", "error 260", send(1, 1), "error 260", send(3, 1), "error 260", send(3, 1)+"0", "error 261")
	says(t, "send, too long", opened(1), "send "+strings.Repeat("00", 49)+" 00", "error 261", "send "+strings.Repeat("00", 49), "error 260", "send "+strings.Repeat("00", 49)+" "+nonce(1, 1), "error 1")
	says(t, "raw, no cascade", "", "raw 0", "error 261", "raw 00", "error 262", "raw", "error 260")
	says(t, "again, no cell", "", "again -", "error 261", "again 0", "error 262", "again 4611686018427387905", "error 261", "again 4611686018427387904", "error 262", "again", "error 260")
	says(t, "go, no cascade", "", "go mix 1,", "error 261", "go mix - 0", "error 261", "go mix -", "error 262", "go mix - 00", "error 262", "go mix", "error 260")
	says(t, "go, not as many tapes", opened(2), "go mix 1, 00", "error 261", "go mix - 0", "error 261", "go mix -", "error 260", "go mix - 00", "error 260", "go mix - 00 00 00", "error 260", "go mix - 00 00 0", "error 261")
	says(t, "go, a bad cell", lines(opened(1), "raw 00"), "go mix - x", "error 261", "go mix -", "error 260", "go mix - 00 00", "error 260", "go mix - 00", "error 64")
}

// P26.1: numbers of each length, and about the greatest: what the desk takes them for shows in a round's bytes.
func TestNumbers(t *testing.T) {
	for w, want := range map[string]string{
		"0": "ok", "00": "ok", "7": "ok", "007": "ok", "0000000000000000000": "ok", "0000000000000000007": "ok", "1000000000000000000": "ok", "4611686018427387903": "ok", "4611686018427387904": "ok",
		"4611686018427387905": "error 261", "4611686018427387910": "error 261", "5000000000000000000": "error 261", "9223372036854775807": "error 261", "9223372036854775808": "error 261", "9999999999999999999": "error 261",
		"00000000000000000000": "error 261", "00000000000000000007": "error 261", "10000000000000000000": "error 261", "18446744073709551616": "error 261", "18446744073709551623": "error 261", "04611686018427387904": "error 261",
		"0999999999999999999": "ok", "340282366920938463463374607431768211456": "error 261",
	} {
		says(t, w, "", "at "+w+" 0", want, "at 0 "+w, want, "at "+w+" "+w, want)
		same(t, w, lines(opened(1), "at "+w+" 3", send(1, 1), mixed(1), "sum", mixed(1), "sum"))
		same(t, w, lines(opened(1), "at 3 "+w, send(1, 1), mixed(1), "sum", mixed(1), "sum"))
	}
	says(t, "noughts ahead of a cell's number", lines(opened(1), send(1, 0), send(1, 1)), "again 0000000000000000001", "cell 1", "again 00", "cell 0", "again 2", "error 262", "again 02", "error 262", "again 00000000000000000001", "error 261")
}

// P26.1: bytes of either case are the same, and `-` is none.
func TestBytes(t *testing.T) {
	for n := range 256 {
		small, great := fmt.Sprintf("%02x", n), fmt.Sprintf("%02X", n)
		for _, w := range []string{small, great, small[:1] + great[1:], great[:1] + small[1:], small + great, great + "00" + small} {
			text := lines(opened(1), "send "+w+" "+nonce(n, 0), mixed(1))
			says(t, "bytes", text, "show", strings.ToLower(w))
		}
	}
	says(t, "no bytes", lines(opened(1), "send - "+nonce(1, 0), mixed(1)), "show", "-")
	says(t, "a nonce of either case", opened(1), "send 01 "+strings.Repeat("aB", 16), "cell 0", "send 01 "+strings.Repeat("Ab", 16), "cell 1", mixed(1), "2 0 1 0 1", "show", "01")
	says(t, "a tape of either case", opened(1), send(1, 1), "cell 0", send(1, 2), "cell 1", play("mix", "-", 1, strings.ToUpper(long)), "2 0 0 0 2")
	upper := strings.Replace(hop(0), word(master(0)), strings.Repeat("2A", 32), 1)
	for _, text := range []string{lines(hop(0), "open"), lines(upper, "open"), lines(strings.Replace(hop(0), "28", "2a", 32), "open")} {
		same(t, "a master of either case", lines(text, send(1, 1), mixed(1), "show", "sum"))
	}
	if desk.Run(lines(upper, "open", send(1, 1), mixed(1), "sum")) != desk.Run(lines(strings.ToLower(upper), "open", send(1, 1), mixed(1), "sum")) {
		t.Error("a master of either case shows in the sum")
	}
}

// P26.1: scripts of any form; no script shows in an answer.
func TestScripts(t *testing.T) {
	for _, script := range []string{"-", "0", "5", "2147483647", "2147483648", "4294967295", "4294967296", "4611686018427387904", "0000000000000000001", "1,2", "5,0,4611686018427387904,9", strings.Repeat("7,", 3000) + "7", "0,0,0,0"} {
		for _, engine := range engines {
			says(t, "script "+script, lines(opened(2), send(2, 1), send(2, 2)), play(engine, script, 2, long), "2 0 0 0 2; 2 0 0 0 2", play(engine, script, 2, "-"), "error 3", play(engine, script, 1, "-"), "error 260")
		}
	}
	for _, script := range []string{",", "1,", ",1", "1,,1", "--", "1,-", "-,1", "4611686018427387905", "1,4611686018427387905", "00000000000000000001", "1,9999999999999999999", "1, 2"} {
		for _, engine := range engines {
			says(t, "script "+script, lines(opened(1), send(1, 1)), play(engine, script, 1, long), "error 261", play(engine, "-", 1, long), "1 0 0 0 1")
		}
	}
}
