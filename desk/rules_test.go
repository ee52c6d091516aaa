package desk_test

import (
	"fmt"
	"runtime"
	"runtime/metrics"
	"slices"
	"strings"
	"sync"
	"testing"
	"time"
	"unsafe"

	"churn/desk"
)

// net: a text with a round by each engine.
func net() string {
	return lines(loudHop(0), loudHop(1), "open", send(2, 1), send(2, 2), play("mix", "5", 2, loud(100, 2630)), "show", "sum", "again 1", send(2, 3), play("crew", "-", 2, loud(100, 2631)), "show", "sum", send(2, 4), play("line", "3,1,4", 2, loud(100, 2632)), "show", "sum")
}

// Rule 6: nothing is kept from text to text: the same one is answered the same, whatever was answered between.
func TestNothingIsKept(t *testing.T) {
	all, _ := newLot(2633).text(50)
	list := []string{"", net(), hops(8), opened(3), lines(opened(1), "raw 00"), "show", "at 4611686018427387904 9", lines(all...), "x", strings.Repeat("\n", 70000)}
	var wants []string
	for _, text := range list {
		wants = append(wants, byWords(text))
	}
	for n := range 60 {
		i := n * n % len(list)
		check(t, fmt.Sprint("text ", i), list[i], wants[i])
	}
	check(t, "twice in one text", lines(net(), "at 0 0", "open"), desk.Run(net())+"ok\nok\n")
}

// Rules 6 and 7: texts at one time, each in a goroutine of its own: each is answered as if it were alone.
func TestAtOneTime(t *testing.T) {
	other, _ := newLot(2634).text(30)
	texts := []string{net(), lines(other...), lines(opened(1), send(1, 7), play("crew", "-", 1, long), "show")}
	var wants []string
	for _, text := range texts {
		wants = append(wants, byWords(text))
	}
	var done sync.WaitGroup
	for hand := range 8 {
		done.Add(1)
		go func() {
			defer done.Done()
			for n := range 6 {
				i := (hand + n) % len(texts)
				if got := desk.Run(texts[i]); got != wants[i] {
					t.Errorf("hand %d: text %d:\n%s\nwant:\n%s", hand, i, short(got), short(wants[i]))
				}
			}
		}()
	}
	done.Wait()
}

// Rule 5: what is answered is memory of its own: a text whose bytes are written over shows in no answer, and no answer in another one.
func TestMemory(t *testing.T) {
	for _, text := range []string{net(), "show", "x", strings.Repeat("#", 65537), lines(opened(1), "send "+strings.Repeat("61", 48)+" "+nonce(1, 1), mixed(1), "show", "show")} {
		p := slices.Concat([]byte("around"), []byte(text), []byte("around"))
		inside := unsafe.String(&p[6], len(text))
		got, other := desk.Run(inside), desk.Run(inside)
		if string(p) != "around"+text+"around" {
			t.Error("the text has changed")
		}
		for i := range p {
			p[i] = 0xAB
		}
		if want := byWords(text); got != want || other != want {
			t.Errorf("a text written over shows:\n%s\nwant:\n%s", short(got), short(want))
		}
		if got != "" && unsafe.StringData(got) == unsafe.StringData(other) {
			t.Error("two answers are in one memory")
		}
	}
}

// begun: how many goroutines the program has begun so far.
func begun() int {
	sample := []metrics.Sample{{Name: "/sched/goroutines-created:goroutines"}}
	metrics.Read(sample)
	if sample[0].Value.Kind() != metrics.KindUint64 {
		return -1
	}
	return int(sample[0].Value.Uint64())
}

// Rule 7: a go by crew alone has goroutines at work, as many as its hops' workers and chunks ask for. The runtime begins some of its own now and then, so one count of several must fit.
func TestWhoBeginsGoroutines(t *testing.T) {
	if begun() < 0 {
		t.Skip("the runtime doesn't tell how many goroutines were begun")
	}
	ahead := lines(opened(2), send(2, 1), send(2, 2), "again 0", "raw "+word(some(320, 2635)))
	for text, want := range map[string]int{
		"": 0, "show": 0, ahead: 0, lines(ahead, mixed(2), "show", "sum"): 0, lines(ahead, play("line", "5", 2, long)): 0, lines(ahead, "go crew - 00"): 0,
		lines(ahead, play("crew", "5", 2, long)): 2 * (3 + 3 + 2), // at each hop so many peel, so many look which tags stand first, and one shuffles each chunk
	} {
		var counts []int
		for range 10 {
			before := begun()
			desk.Run(text)
			counts = append(counts, begun()-before)
		}
		if !slices.Contains(counts, want) {
			t.Errorf("%s\n%v goroutines begun; want %d", short(text), counts, want)
		}
	}
}

// Rule 7: all goroutines have ended when a text is answered. (The last one may still be on its way out, so there is a little patience.)
func TestGoroutinesHaveEnded(t *testing.T) {
	before := runtime.NumGoroutine()
	for _, tape := range []string{long, "-", word(make([]byte, 19))} {
		desk.Run(lines(opened(2), send(2, 1), send(2, 2), play("crew", "-", 2, tape), play("crew", "-", 2, long), "again 0", play("crew", "-", 1, tape)))
		for range 2000 {
			if runtime.NumGoroutine() <= before {
				break
			}
			time.Sleep(time.Millisecond)
		}
		if after := runtime.NumGoroutine(); after > before {
			t.Fatalf("%d goroutines ahead of it, %d behind it", before, after)
		}
	}
}

// Rule 1: the longest texts of one kind of line end, and are answered as the chapter's words say.
func TestLongTexts(t *testing.T) {
	if testing.Short() {
		t.Skip("it takes seconds")
	}
	fill := func(ahead, line string) string {
		return ahead + strings.Repeat("\n"+line, (65536-len(ahead))/(len(line)+1))
	}
	var many []string
	for k := range 12 {
		many = append(many, send(1, k))
	}
	for what, text := range map[string]string{
		"open":           fill(hops(8), "open"),
		"again":          fill(lines(opened(1), send(1, 1)), "again 0"),
		"empty rounds":   fill(opened(1), "go crew - "+strings.Repeat("00", 18)),
		"refused rounds": fill(lines(opened(1), "raw 00"), "go line 1 -"),
		"rounds":         fill(lines(opened(1), send(1, 1)), "again 0\n"+mixed(1)),
		"sum":            fill(lines(opened(1), send(1, 1), mixed(1)), "sum"),
		"show":           fill(lines(opened(1), lines(many...), play("mix", "-", 1, "0000"+word(some(1000, 2636)))), "show"),
		"nonces":         fill(opened(1), "send 00"+strings.Repeat(" "+nonce(1, 1), 200)),
		"tapes":          fill(opened(1), "go mix -"+strings.Repeat(" -", 200)),
	} {
		same(t, what, text)
	}
}
