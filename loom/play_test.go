package loom_test

import (
	"fmt"
	"slices"
	"strings"
	"testing"

	"churn/api"
	"churn/loom"
)

// pair: the plan P of the chapter's examples.
func pair(capacity int) api.Plan {
	return planOf([]int{capacity}, "set 7, put 0, close 0", "take 0 1")
}

// A writtenRun is a plan, a script and the history that it must have, as inWords tells it.
type writtenRun struct {
	plan   api.Plan
	script []int
	want   string
}

// checkWritten: whether Play, and the words as the tests have them, tell the histories that are written out.
func checkWritten(t *testing.T, list []writtenRun) {
	t.Helper()
	for _, c := range list {
		h, e := loom.Play(c.plan, c.script)
		if got := inWords(h); e != api.OK || got != c.want {
			t.Errorf("%s, script %v: %s, error %d; want %s", textOf(c.plan), c.script, got, e, c.want)
		}
		if got := inWords(playWords(c.plan, c.script, 65536).history); got != c.want {
			t.Errorf("%s, script %v: by the words %s; want %s", textOf(c.plan), c.script, got, c.want)
		}
	}
}

// P19.2: the chapter's examples.
func TestExamples(t *testing.T) {
	checkWritten(t, []writtenRun{
		{pair(1), nil, "picks 0 0 0 1; most 1; late 0; ended; - / 7"},
		{pair(1), []int{1, 1, 1, 1}, "picks 0 0 1 0; most 1; late 0; ended; - / 7"},
		{pair(0), nil, "picks 0 0 0; most 0; late 0; ended; - / 7"},
		{planOf(nil, "wait 1", "wait 0"), nil, "picks -; most 0; late 0; stuck; - / -"},
		{planOf(nil, "jump 0"), nil, "65536 picks; most 0; late 0; -"},
		{planOf([]int{0}, "close 0, close 0, put 0"), nil, "picks 0 0 0; most 0; late 2; ended; -"},
		{planOf([]int{5}, "close 0, close 0, put 0"), nil, "picks 0 0 0; most 0; late 2; ended; -"},
	})
	if h, e := loom.Play(planOf(nil, "put 5"), nil); e != api.ErrPlan || !zeroHistory(h) {
		t.Errorf("a put without ducts: %s, error %d", inWords(h), e)
	}
}

// P19.2: no tasks, tasks without operations, ducts that nobody uses.
func TestPlayOfNothing(t *testing.T) {
	checkWritten(t, []writtenRun{
		{api.Plan{}, nil, "picks -; most 0; late 0; ended;"},
		{planOf([]int{0, 1, 1024}), []int{1, 2}, "picks -; most 0; late 0; ended;"},
		{planOf(nil, ""), nil, "picks -; most 0; late 0; ended; -"},
		{planOf([]int{2}, "", "", ""), []int{9}, "picks -; most 0; late 0; ended; - / - / -"},
		{planOf([]int{2}, "", "end", ""), []int{9}, "picks 1; most 0; late 0; ended; - / - / -"},
	})
	for n := range 129 {
		p := api.Plan{Tasks: make([][]api.Op, n)}
		if h, e := loom.Play(p, []int{5}); e != api.OK || !h.Ended || h.Stuck || len(h.Taken) != n || len(h.Picks) != 0 {
			t.Errorf("%d tasks without operations: %s, error %d", n, inWords(h), e)
		}
	}
}

// P19.2: OpPut: with room, on a full duct, on a closed one; the register stays.
func TestPut(t *testing.T) {
	checkWritten(t, []writtenRun{
		// With room up to the capacity, then it waits.
		{planOf([]int{1}, "put 0, put 0"), nil, "picks 0; most 1; late 0; stuck; -"},
		{planOf([]int{3}, "put 0, put 0, put 0, put 0, put 0"), nil, "picks 0 0 0; most 3; late 0; stuck; -"},
		{planOf([]int{3}, "put 0, put 0, put 0"), nil, "picks 0 0 0; most 3; late 0; ended; -"},
		// Behind the others, the register's number each time; the register stays as it is.
		{planOf([]int{4}, "set 5, put 0, put 0, add 2, put 0, set 1, put 0", "take 0 0, take 0 0, take 0 0, take 0 0"), nil, "picks 0 0 0 0 0 0 0 1 1 1 1; most 4; late 0; ended; - / 5 5 7 1"},
		// At first the register is 0.
		{planOf([]int{1}, "put 0", "take 0 0"), nil, "picks 0 1; most 1; late 0; ended; - / 0"},
		// Closed: the number is lost, Late grows, the task goes on; full and closed too.
		{planOf([]int{1}, "close 0, set 5, put 0, put 0"), nil, "picks 0 0 0 0; most 0; late 2; ended; -"},
		{planOf([]int{1}, "set 5, put 0, close 0, set 6, put 0, put 0, take 0 8, end"), nil, "picks 0 0 0 0 0 0 0 0; most 1; late 2; ended; 5"},
		{planOf([]int{0}, "close 0, put 0", "take 0 1"), nil, "picks 0 0 1; most 0; late 1; ended; - / -"},
		// A task that waits at a full duct may be picked when it is closed, or when another took.
		{planOf([]int{1}, "put 0, put 0", "close 0"), []int{0, 1, 0}, "picks 0 1 0; most 1; late 1; ended; - / -"},
		{planOf([]int{1}, "set 3, put 0, put 0", "take 0 0"), []int{0, 0, 1}, "picks 0 0 1 0; most 1; late 0; ended; - / 3"},
		// At capacity 0, with nobody to meet: it waits; a task that stands at a put isn't one to meet, nor one that stands at a take of another duct.
		{planOf([]int{0}, "put 0"), nil, "picks -; most 0; late 0; stuck; -"},
		{planOf([]int{0}, "put 0", "put 0"), nil, "picks -; most 0; late 0; stuck; - / -"},
		{planOf([]int{0, 0}, "put 0", "take 1 0"), nil, "picks -; most 0; late 0; stuck; - / -"},
		{planOf([]int{0, 0, 0}, "put 0", "choose 1 2"), nil, "picks -; most 0; late 0; stuck; - / -"},
		// A task never meets itself.
		{planOf([]int{0}, "put 0, take 0 0"), nil, "picks -; most 0; late 0; stuck; -"},
		{planOf([]int{0}, "take 0 0, put 0"), nil, "picks -; most 0; late 0; stuck; -"},
		// Over a duct with a capacity nobody meets: a full one stays full.
		{planOf([]int{1}, "set 1, put 0, set 2, put 0", "wait 2, take 0 0, take 0 0", ""), nil, "picks 0 0 0 1 1 0 1; most 1; late 0; ended; - / 1 2 / -"},
	})
}

// P19.2: OpTake: from a duct that holds something, open or closed; from one that is closed and empty, to each place; from one that is open and empty.
func TestTake(t *testing.T) {
	checkWritten(t, []writtenRun{
		// The first one is taken; the register becomes it.
		{planOf([]int{2}, "set 5, put 0, set 6, put 0, take 0 0, put 0, take 0 0, add 1, put 0, take 0 0"), nil, "picks 0 0 0 0 0 0 0 0 0 0; most 2; late 0; ended; 5 6 5"},
		{planOf([]int{3}, "set 5, put 0, set 6, put 0, take 0 0, put 0, take 0 0, take 0 0"), nil, "picks 0 0 0 0 0 0 0 0; most 2; late 0; ended; 5 6 5"},
		// Open and empty: it waits.
		{planOf([]int{1}, "take 0 1"), nil, "picks -; most 0; late 0; stuck; -"},
		{planOf([]int{0}, "take 0 1"), nil, "picks -; most 0; late 0; stuck; -"},
		{planOf([]int{0}, "take 0 1", "take 0 1"), nil, "picks -; most 0; late 0; stuck; - / -"},
		// Closed, but it holds something: that is taken first.
		{planOf([]int{2}, "set 4, put 0, put 0, close 0, take 0 7, take 0 7, end, put 0"), nil, "picks 0 0 0 0 0 0 0; most 2; late 0; ended; 4 4"},
		// Closed and empty: the place becomes B; nothing is taken, and the register stays.
		{planOf([]int{1, 1}, "close 0, set 9, take 0 5, set 1, end, put 1, take 1 0"), nil, "picks 0 0 0 0 0; most 1; late 0; ended; 9"},
		{planOf([]int{0, 1}, "close 0, set 9, take 0 5, set 1, end, put 1, take 1 0"), nil, "picks 0 0 0 0 0; most 1; late 0; ended; 9"},
		{planOf([]int{1}, "close 0, take 0 2"), nil, "picks 0 0; most 0; late 0; ended; -"},
		{planOf([]int{1}, "close 0, take 0 3, close 0"), nil, "picks 0 0; most 0; late 0; ended; -"},
		{planOf([]int{1}, "jump 2, end, close 0, take 0 1"), nil, "picks 0 0 0 0; most 0; late 0; ended; -"},
		{planOf([]int{1}, "close 0, unless 3 2, end, add 1, take 0 1"), nil, "picks 0 0 0 0 0 0 0 0 0; most 0; late 0; ended; -"},
		{planOf([]int{1}, "close 0, take 0 1"), nil, "65536 picks; most 0; late 0; -"},
	})
}

// P19.2: OpClose, OpSet, OpAdd, OpJump, OpUnless and OpEnd, which may always be picked.
func TestAlways(t *testing.T) {
	checkWritten(t, []writtenRun{
		// Late grows by each close of a closed duct, not by the first one.
		{planOf([]int{0, 1}, "close 0, close 1"), nil, "picks 0 0; most 0; late 0; ended; -"},
		{planOf([]int{0, 1}, "close 1, close 1, close 0, close 1, close 0"), nil, "picks 0 0 0 0 0; most 0; late 3; ended; -"},
		{planOf([]int{3}, "close 0", "close 0", "put 0"), []int{1, 1}, "picks 1 2 0; most 0; late 2; ended; - / - / -"},
		// What a duct holds when it is closed stays in.
		{planOf([]int{3}, "set 2, put 0, put 0, close 0"), nil, "picks 0 0 0 0; most 2; late 0; ended; -"},
		// The register: set, grown, below 0 too.
		{planOf([]int{9}, "set 1024, put 0, add 1024, put 0, add -1024, put 0, set -1024, put 0, add -1024, put 0, set 0, put 0", "take 0 0, take 0 0, take 0 0, take 0 0, take 0 0, take 0 0"), nil,
			"picks 0 0 0 0 0 0 0 0 0 0 0 0 1 1 1 1 1 1; most 6; late 0; ended; - / 1024 2048 1024 -1024 -2048 0"},
		{planOf([]int{1}, "set 5, set -3, add 1, put 0, take 0 0, add 4, put 0, take 0 0"), nil, "picks 0 0 0 0 0 0 0 0; most 1; late 0; ended; -2 2"},
		// Jumps: ahead, to the end, and to an end of another kind.
		{planOf([]int{1}, "jump 2, put 0, end, put 0"), nil, "picks 0 0; most 0; late 0; ended; -"},
		{planOf([]int{1}, "jump 2, put 0"), nil, "picks 0; most 0; late 0; ended; -"},
		{planOf([]int{1}, "end, put 0, put 0"), nil, "picks 0; most 0; late 0; ended; -"},
		// Unless: on where the register is B, else to A; the register stays.
		{planOf([]int{1}, "unless 3 0, put 0, end, close 0, close 0"), nil, "picks 0 0 0; most 1; late 0; ended; -"},
		{planOf([]int{1}, "unless 3 1, put 0, end, close 0, close 0"), nil, "picks 0 0 0; most 0; late 1; ended; -"},
		{planOf([]int{1}, "unless 3 -1, put 0, end, close 0, close 0"), nil, "picks 0 0 0; most 0; late 1; ended; -"},
		{planOf([]int{1}, "set -1024, unless 3 -1024, end, close 0, close 0"), nil, "picks 0 0 0; most 0; late 0; ended; -"},
		{planOf([]int{1}, "set 7, unless 3 0, end, put 0, take 0 0"), nil, "picks 0 0 0 0; most 1; late 0; ended; 7"},
		{planOf([]int{1}, "add 1, unless 0 3, put 0, take 0 0"), nil, "picks 0 0 0 0 0 0 0 0; most 1; late 0; ended; 3"},
		{planOf([]int{1}, "set 7, unless 3 0, end"), nil, "picks 0 0; most 0; late 0; ended; -"},
		{planOf([]int{1}, "set 7, unless 2 0, end"), nil, "picks 0 0 0; most 0; late 0; ended; -"},
	})
}

// P19.2: meetings over a duct of capacity 0: by the pick of the one or of the other, with the lowest-numbered task that can; both on, and nothing lies in the duct.
func TestMeeting(t *testing.T) {
	checkWritten(t, []writtenRun{
		// The pick of the giver moves both, and so does that of the taker.
		{planOf([]int{0}, "set 7, put 0, close 0", "take 0 1, end"), nil, "picks 0 0 0 1; most 0; late 0; ended; - / 7"},
		{planOf([]int{0}, "set 7, put 0, close 0", "take 0 1, end"), []int{0, 1, 1, 0}, "picks 0 1 1 0; most 0; late 0; ended; - / 7"},
		// The giver's register stays, the taker's becomes the number.
		{planOf([]int{0, 2}, "set 7, put 0, put 1", "set 4, take 0 0, put 1, take 1 0, take 1 0"), []int{0, 0, 0, 0, 0}, "picks 0 1 0 0 1 1 1; most 2; late 0; ended; - / 7 7 7"},
		// Takers 1, 2 and 3: the giver meets the lowest-numbered one that stands there.
		{planOf([]int{0}, "set 1, put 0, add 1, put 0, add 1, put 0", "take 0 0", "take 0 0", "take 0 0"), nil, "picks 0 0 0 0 0 0; most 0; late 0; ended; - / 1 / 2 / 3"},
		{planOf([]int{0}, "set 1, put 0, add 1, put 0, add 1, put 0", "wait 3, take 0 0", "take 0 0", "take 0 0"), nil, "picks 0 0 0 0 0 1 0; most 0; late 0; ended; - / 3 / 1 / 2"},
		// The taker that is picked takes itself, whoever else could.
		{planOf([]int{0}, "set 1, put 0, add 1, put 0, add 1, put 0", "take 0 0", "take 0 0", "take 0 0"), []int{0, 3, 0, 2, 0, 1}, "picks 0 3 0 2 0 1; most 0; late 0; ended; - / 3 / 2 / 1"},
		// Givers 1, 2 and 3: a taker meets the lowest-numbered one that stands there, not the one that came first.
		{planOf([]int{0}, "take 0 0, take 0 0, take 0 0", "set 1, put 0", "set 2, put 0", "set 3, put 0"), []int{2, 1}, "picks 3 1 0 0 2 0; most 0; late 0; ended; 1 3 2 / - / - / -"},
		{planOf([]int{0}, "take 0 0, take 0 0, take 0 0", "set 1, put 0", "set 2, put 0", "set 3, put 0"), []int{2, 2}, "picks 3 2 0 0 1 0; most 0; late 0; ended; 2 3 1 / - / - / -"},
		// The giver that is picked gives itself, though a lower one stands there.
		{planOf([]int{0}, "take 0 0, take 0 0", "set 1, put 0", "set 2, put 0"), []int{0, 2, 2}, "picks 1 2 2 0; most 0; late 0; ended; 2 1 / - / -"},
		// A taker below the giver, and above it.
		{planOf([]int{0}, "take 0 0", "set 5, put 0"), []int{0, 1}, "picks 1 1; most 0; late 0; ended; 5 / -"},
		{planOf([]int{0}, "take 0 0", "set 5, put 0", "take 0 0"), []int{0, 1}, "picks 1 1; most 0; late 0; stuck; 5 / - / -"},
		// Over a closed duct nobody meets: the put is late, the take goes to B.
		{planOf([]int{0}, "set 5, put 0", "take 0 2, end", "close 0"), []int{0, 2}, "picks 0 2 0 1; most 0; late 1; ended; - / - / -"},
		{planOf([]int{0}, "set 5, put 0", "take 0 1, end", "close 0"), []int{0, 2, 1, 1}, "picks 0 2 1 1 0; most 0; late 1; ended; - / - / -"},
		// Over a duct with a capacity nobody meets: what is put lies there first.
		{planOf([]int{1}, "set 5, put 0", "take 0 1"), nil, "picks 0 0 1; most 1; late 0; ended; - / 5"},
		// A task that is met at its last operation has ended with that, and one that waits for it may be picked.
		{planOf([]int{0}, "set 5, put 0", "take 0 0", "wait 1"), nil, "picks 0 0 2; most 0; late 0; ended; - / 5 / -"},
		{planOf([]int{0}, "take 0 0", "set 5, put 0", "wait 1"), []int{0, 0}, "picks 1 0 2; most 0; late 0; ended; 5 / - / -"},
		// A task that has ended is met by nobody: one behind OpEnd has its place at it no more.
		{planOf([]int{0}, "put 0", "end, take 0 0"), []int{0}, "picks 1; most 0; late 0; stuck; - / -"},
		{planOf([]int{0}, "put 0", "jump 2, take 0 0"), []int{0}, "picks 1; most 0; late 0; stuck; - / -"},
		// Meetings over two ducts side by side.
		{planOf([]int{0, 0}, "set 1, put 0, put 1", "set 2, put 1, put 0", "take 0 0, take 1 0", "take 1 0, take 0 0"), []int{0, 1}, "picks 0 1 0 0 1 1; most 0; late 0; ended; - / - / 1 1 / 2 2"},
	})
}

// P19.2: meetings at an OpChoose, over its A and over its B.
func TestMeetingAtChoose(t *testing.T) {
	both := planOf([]int{0, 0}, "set 5, put 0", "set 6, put 1", "wait 3, choose 0 1", "end")
	turned := planOf([]int{0, 0}, "set 5, put 0", "set 6, put 1", "wait 3, choose 1 0", "end")
	checkWritten(t, []writtenRun{
		// Met by a giver, over A and over B.
		{planOf([]int{0, 0}, "set 5, put 0", "choose 0 1"), nil, "picks 0 0; most 0; late 0; ended; - / 5"},
		{planOf([]int{0, 0}, "set 5, put 1", "choose 0 1"), nil, "picks 0 0; most 0; late 0; ended; - / 5"},
		// Picked itself.
		{planOf([]int{0, 0}, "set 5, put 0", "choose 0 1"), []int{0, 1}, "picks 0 1; most 0; late 0; ended; - / 5"},
		{planOf([]int{0, 0}, "set 5, put 1", "choose 0 1"), []int{0, 1}, "picks 0 1; most 0; late 0; ended; - / 5"},
		// A and B the same duct.
		{planOf([]int{0}, "set 5, put 0", "choose 0 0"), nil, "picks 0 0; most 0; late 0; ended; - / 5"},
		{planOf([]int{0}, "set 5, put 0", "choose 0 0"), []int{0, 1}, "picks 0 1; most 0; late 0; ended; - / 5"},
		// Both have a giver: picked, it takes over A; met, it takes from the giver that was picked, over B too.
		{both, []int{0, 0, 0, 0, 2}, "picks 0 1 3 2 2; most 0; late 0; stuck; - / - / 5 / -"},
		{both, []int{0, 0, 0, 0, 1}, "picks 0 1 3 2 1; most 0; late 0; stuck; - / - / 6 / -"},
		{both, []int{0, 0, 0, 0, 0}, "picks 0 1 3 2 0; most 0; late 0; stuck; - / - / 5 / -"},
		{turned, []int{0, 0, 0, 0, 2}, "picks 0 1 3 2 2; most 0; late 0; stuck; - / - / 6 / -"},
		{turned, []int{0, 0, 0, 0, 1}, "picks 0 1 3 2 1; most 0; late 0; stuck; - / - / 6 / -"},
		{turned, []int{0, 0, 0, 0, 0}, "picks 0 1 3 2 0; most 0; late 0; stuck; - / - / 5 / -"},
		// Its other duct holds something: met, it takes the giver's number all the same; picked, it takes from A first.
		{planOf([]int{1, 0}, "set 8, put 0, set 5, put 1", "choose 0 1"), []int{0, 0, 0, 0}, "picks 0 0 0 0; most 1; late 0; ended; - / 5"},
		{planOf([]int{1, 0}, "set 8, put 0, set 5, put 1", "choose 0 1"), []int{0, 0, 0, 1}, "picks 0 0 0 1; most 1; late 0; stuck; - / 8"},
		{planOf([]int{1, 0}, "set 8, put 0, set 5, put 1", "choose 1 0"), []int{0, 0, 0, 1}, "picks 0 0 0 1; most 1; late 0; ended; - / 5"},
		{planOf([]int{1, 0}, "set 8, put 0, set 5, put 1", "choose 1 0"), []int{0, 0, 1}, "picks 0 0 1 0; most 1; late 0; stuck; - / 8"},
		// The lowest-numbered taker, whether it stands at a take or at a choose.
		{planOf([]int{0, 0}, "set 5, put 1", "choose 0 1", "take 1 0", "choose 1 0"), nil, "picks 0 0; most 0; late 0; stuck; - / 5 / - / -"},
		{planOf([]int{0, 0}, "set 5, put 1, put 1", "take 1 0", "choose 0 1", "choose 1 0"), nil, "picks 0 0 0; most 0; late 0; stuck; - / 5 / 5 / -"},
		{planOf([]int{0, 0}, "set 5, put 1, put 1", "take 0 0", "choose 1 0", "choose 0 1"), nil, "picks 0 0 0; most 0; late 0; stuck; - / - / 5 / 5"},
		// The lowest-numbered giver over the duct, not over both.
		{planOf([]int{0, 0}, "wait 4, choose 1 0", "set 5, put 0", "set 6, put 1", "set 7, put 1", "end"), []int{0, 0, 0, 0, 0, 0}, "picks 1 2 3 4 0 0; most 0; late 0; stuck; 6 / - / - / - / -"},
		{planOf([]int{0, 0}, "wait 4, choose 0 1", "end", "set 6, put 1", "set 7, put 1", "end"), []int{0, 0, 0, 0, 0, 0}, "picks 1 2 3 4 0 0; most 0; late 0; stuck; 6 / - / - / - / -"},
		// Over a closed duct nobody meets, over the other one they do.
		{planOf([]int{0, 0}, "close 0, set 5, put 1", "choose 0 1"), nil, "picks 0 0 0; most 0; late 0; ended; - / 5"},
		{planOf([]int{0, 0}, "close 1, set 5, put 1", "choose 0 1"), nil, "picks 0 0 0; most 0; late 1; stuck; - / -"},
		// Two that stand at a choose don't meet.
		{planOf([]int{0, 0}, "choose 0 1", "choose 1 0", "take 0 0"), nil, "picks -; most 0; late 0; stuck; - / - / -"},
	})
}

// P19.2: OpChoose: A, B, both or none ready; both closed and empty, with registers below 0, within the operations, at their end and beyond.
func TestChoose(t *testing.T) {
	checkWritten(t, []writtenRun{
		// A alone, B alone, both: A.
		{planOf([]int{1, 1}, "set 5, put 0, choose 0 1"), nil, "picks 0 0 0; most 1; late 0; ended; 5"},
		{planOf([]int{1, 1}, "set 5, put 1, choose 0 1"), nil, "picks 0 0 0; most 1; late 0; ended; 5"},
		{planOf([]int{1, 1}, "set 5, put 0, set 6, put 1, choose 0 1, choose 0 1"), nil, "picks 0 0 0 0 0 0; most 2; late 0; ended; 5 6"},
		{planOf([]int{1, 1}, "set 5, put 0, set 6, put 1, choose 1 0, choose 1 0"), nil, "picks 0 0 0 0 0 0; most 2; late 0; ended; 6 5"},
		{planOf([]int{2}, "set 5, put 0, set 6, put 0, choose 0 0, choose 0 0"), nil, "picks 0 0 0 0 0 0; most 2; late 0; ended; 5 6"},
		// None: it waits, while one of the two is open.
		{planOf([]int{1, 1}, "choose 0 1"), nil, "picks -; most 0; late 0; stuck; -"},
		{planOf([]int{0, 0}, "choose 0 1"), nil, "picks -; most 0; late 0; stuck; -"},
		{planOf([]int{1, 1}, "close 0, choose 0 1"), nil, "picks 0; most 0; late 0; stuck; -"},
		{planOf([]int{1, 1}, "close 1, choose 0 1"), nil, "picks 0; most 0; late 0; stuck; -"},
		{planOf([]int{0, 0}, "close 1, choose 0 1"), nil, "picks 0; most 0; late 0; stuck; -"},
		// One or both closed, but it holds something: that is taken.
		{planOf([]int{1, 1}, "set 5, put 0, close 0, choose 0 1"), nil, "picks 0 0 0 0; most 1; late 0; ended; 5"},
		{planOf([]int{1, 1}, "set 5, put 1, close 1, choose 0 1"), nil, "picks 0 0 0 0; most 1; late 0; ended; 5"},
		{planOf([]int{1, 1}, "set 5, put 1, close 1, close 0, choose 0 1"), nil, "picks 0 0 0 0 0; most 1; late 0; ended; 5"},
		{planOf([]int{1, 1}, "set 5, put 0, close 1, close 0, choose 0 1"), nil, "picks 0 0 0 0 0; most 1; late 0; ended; 5"},
		// Both closed and empty: to the place that the register tells; nothing is taken, and the register stays.
		{planOf([]int{1, 1, 1}, "close 0, close 1, set 6, choose 0 1, end, end, put 2, take 2 0"), nil, "picks 0 0 0 0 0 0; most 1; late 0; ended; 6"},
		{planOf([]int{0, 0, 1}, "close 0, close 1, set 6, choose 0 1, end, end, put 2, take 2 0"), nil, "picks 0 0 0 0 0 0; most 1; late 0; ended; 6"},
		{planOf([]int{0}, "close 0, set 4, choose 0 0, close 0, end"), nil, "picks 0 0 0 0; most 0; late 0; ended; -"},
		{planOf([]int{0}, "close 0, set 3, choose 0 0, close 0, end"), nil, "picks 0 0 0 0 0; most 0; late 1; ended; -"},
		{planOf([]int{0}, "close 0, set 5, choose 0 0, close 0, end"), nil, "picks 0 0 0; most 0; late 0; ended; -"},
		{planOf([]int{0}, "close 0, set 6, choose 0 0, close 0, end"), nil, "picks 0 0 0; most 0; late 0; ended; -"},
		{planOf([]int{0}, "close 0, set 1024, choose 0 0, close 0, end"), nil, "picks 0 0 0; most 0; late 0; ended; -"},
		{planOf([]int{0}, "close 0, set 1024, add 1024, choose 0 0, close 0, end"), nil, "picks 0 0 0 0; most 0; late 0; ended; -"},
		{planOf([]int{0}, "close 0, set -1, choose 0 0, close 0, end"), nil, "picks 0 0 0; most 0; late 0; ended; -"},
		{planOf([]int{0}, "close 0, set -1024, choose 0 0, close 0, end"), nil, "picks 0 0 0; most 0; late 0; ended; -"},
		{planOf([]int{0}, "close 0, set 2, choose 0 0, close 0, end"), nil, "65536 picks; most 0; late 0; -"},
		{planOf([]int{0}, "close 0, choose 0 0, close 0, end"), nil, "65536 picks; most 0; late 32767; -"},
		// One that has ended by that is waited for, and met, no more.
		{planOf([]int{0, 0}, "close 0, set -1, choose 0 0, take 1 0", "wait 0, put 1"), nil, "picks 0 0 0 1; most 0; late 0; stuck; - / -"},
		{planOf([]int{0, 0}, "close 0, set 9, choose 0 0, take 1 0", "wait 0, put 1"), nil, "picks 0 0 0 1; most 0; late 0; stuck; - / -"},
	})
}

// P19.2: OpWait of a task that has ended, of one that ends later, by each way of ending, and of itself; tasks that wait for one another.
func TestWait(t *testing.T) {
	checkWritten(t, []writtenRun{
		{planOf(nil, "wait 1, end", ""), nil, "picks 0 0; most 0; late 0; ended; - / -"},
		{planOf(nil, "wait 1, end", "end"), nil, "picks 1 0 0; most 0; late 0; ended; - / -"},
		{planOf(nil, "wait 1", "set 1, set 2"), nil, "picks 1 1 0; most 0; late 0; ended; - / -"},
		{planOf(nil, "wait 1", "jump 1"), nil, "picks 1 0; most 0; late 0; ended; - / -"},
		{planOf(nil, "wait 1", "unless 2 1, end"), nil, "picks 1 0; most 0; late 0; ended; - / -"},
		{planOf([]int{0}, "wait 1", "close 0, take 0 3, end"), nil, "picks 1 1 0; most 0; late 0; ended; - / -"},
		{planOf([]int{0}, "wait 1", "close 0, take 0 2, end"), nil, "picks 1 1 1 0; most 0; late 0; ended; - / -"},
		{planOf(nil, "wait 0"), nil, "picks -; most 0; late 0; stuck; -"},
		{planOf(nil, "set 1, wait 0", "end"), []int{1}, "picks 1 0; most 0; late 0; stuck; - / -"},
		{planOf(nil, "wait 1", "wait 2", "wait 0"), []int{5}, "picks -; most 0; late 0; stuck; - / - / -"},
		{planOf(nil, "wait 1", "wait 2", "wait 3", "set 1"), []int{5}, "picks 3 2 1 0; most 0; late 0; ended; - / - / - / -"},
		{planOf(nil, "wait 2, wait 1", "end", ""), []int{0, 1, 1}, "picks 0 1 0; most 0; late 0; ended; - / - / -"},
	})
}

// P19.2: Most is what lay in all ducts together behind a pick, the greatest of all picks.
func TestMost(t *testing.T) {
	checkWritten(t, []writtenRun{
		{planOf([]int{2, 3, 4}, "put 0, put 1, put 2, put 1, take 0 0, take 1 0, put 2"), nil, "picks 0 0 0 0 0 0 0; most 4; late 0; ended; 0 0"},
		{planOf([]int{5}, "put 0, put 0, put 0, take 0 0, take 0 0, take 0 0, put 0, put 0"), nil, "picks 0 0 0 0 0 0 0 0; most 3; late 0; ended; 0 0 0"},
		{planOf([]int{5}, "put 0, take 0 0, put 0, put 0, close 0, put 0, put 0"), nil, "picks 0 0 0 0 0 0 0; most 2; late 2; ended; 0"},
		{planOf([]int{1, 0}, "put 0, put 1", "take 1 0"), nil, "picks 0 0; most 1; late 0; ended; - / 0"},
	})
	// 64 tasks, 1024 picks each, of which every third one, the first among them, puts: 342 puts into each of 64 ducts.
	var fill []string
	for d := range 64 {
		fill = append(fill, fmt.Sprintf("put %d, add 1, unless 0 1024", d))
	}
	p := planOf(slices.Repeat([]int{1024}, 64), fill...)
	want := "65536 picks; most 21888; late 0;" + strings.Repeat(" - /", 63) + " -"
	round := make([]int, 65536)
	for i := range round {
		round[i] = i
	}
	if h, e := loom.Play(p, round); e != api.OK || inWords(h) != want {
		t.Errorf("64 tasks that fill 64 ducts: %s, error %d; want %s", inWords(h), e, want)
	}
}

// P19.2: MaxPicks picks at most: a run that ends with the last of them, one that would end with one more, one that is stuck behind the last of them, and one that is neither.
func TestMaxPicks(t *testing.T) {
	// Two picks a turn, 1024 turns, 32 tasks.
	tasks := slices.Repeat([]string{"add 1, unless 0 1024"}, 32)
	none := " -" + strings.Repeat(" / -", 31)
	checkWritten(t, []writtenRun{
		{planOf(nil, tasks...), nil, "65536 picks; most 0; late 0; ended;" + none},
		{planOf(nil, append(tasks, "end")...), nil, "65536 picks; most 0; late 0;" + none + " / -"},
		{planOf(nil, append(tasks, "end")...), []int{-1}, "65536 picks; most 0; late 0;" + none + " / -"},
		{planOf(nil, append(tasks, "wait 32")...), nil, "65536 picks; most 0; late 0; stuck;" + none + " / -"},
		{planOf(nil, append(tasks, "wait 31")...), nil, "65536 picks; most 0; late 0;" + none + " / -"},
		{planOf([]int{0}, append(tasks, "put 0")...), []int{4, -1, 7}, "65536 picks; most 0; late 0; stuck;" + none + " / -"},
		{planOf(nil, append(tasks[1:], "add 1, unless 0 1023, end")...), []int{6, 6}, "65535 picks; most 0; late 0; ended;" + none},
	})
	// A script of just so many numbers, one fewer, and more.
	p := planOf(nil, "jump 0", "jump 0", "jump 0")
	for _, n := range []int{65535, 65536, 65537, 70000} {
		script := make([]int, n)
		for i := range script {
			script[i] = i*i + i/7
		}
		h := checkPlay(t, p, script).history
		if len(h.Picks) != 65536 || h.Ended || h.Stuck {
			t.Errorf("a script of %d numbers: %s", n, inWords(h))
		}
	}
}

// upTo: the numbers from 1 to n.
func upTo(n int) (list []int) {
	for x := range n {
		list = append(list, x+1)
	}
	return list
}

// P19.2 and P19.3: every capacity, filled up to it and no further; what is put comes out in its order.
func TestEveryCapacity(t *testing.T) {
	for capacity := range 1025 {
		h, e := loom.Play(planOf([]int{capacity}, "put 0, jump 0"), nil)
		if e != api.OK || !h.Stuck || h.Most != capacity || len(h.Picks) != 2*capacity {
			t.Errorf("capacity %d, filled: %s, error %d", capacity, inWords(h), e)
		}
		n := min(capacity+3, 1024)
		p := planOf([]int{capacity}, fmt.Sprintf("add 1, put 0, unless 0 %d, close 0", n), "take 0 2, jump 0")
		h, e = loom.Play(p, nil)
		if e != api.OK || !h.Ended || h.Most != capacity || h.Late != 0 || !slices.Equal(h.Taken[1], upTo(n)) {
			t.Errorf("capacity %d, %d numbers through it: %s, error %d", capacity, n, inWords(h), e)
		}
	}
}
