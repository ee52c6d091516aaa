package loom_test

import (
	"testing"

	"churn/api"
	"churn/loom"
)

// P19.2: runs that another program told.
func TestKnownRuns(t *testing.T) {
	checkWritten(t, []writtenRun{
		{planOf([]int{2, 0}, "add 1, put 0, unless 0 4, close 0", "take 0 3, put 1, jump 0, close 1", "take 1 2, jump 0"), []int{2, -1, 1, 0, 1, 1, 5}, "picks 0 0 1 0 1 1 2 0 0 0 0 0 0 0 1 0 0 0 1 1 1 2 1 1 1 2 1 1 1 1 2 2; most 2; late 0; ended; - / 1 2 3 4 / 1 2 3 4"},
		{planOf([]int{2, 0}, "add 1, put 0, unless 0 4, close 0", "take 0 3, put 1, jump 0, close 1", "take 1 2, jump 0"), []int{-1, -1, -1, -1, -1, -1, -1, -1, -1, -1, -1, -1, -1, -1, -1, -1, -1, -1, -1, -1, -1, -1, -1, -1, -1, -1, -1, -1, -1, -1}, "picks 0 0 1 2 2 1 0 0 0 1 2 2 1 0 0 0 1 2 2 1 0 0 0 1 2 2 1 0 0 1 1 2; most 1; late 0; ended; - / 1 2 3 4 / 1 2 3 4"},
		{planOf([]int{0, 1}, "set 3, put 0, put 1, put 0, close 0", "set 9, put 1, put 0, wait 0, close 1", "choose 0 1, add 1, unless 0 4, end", "set 4, choose 1 0, jump 1, put 0, end"), []int{1, 2, 3, -1, 7, 0, 0, 4, 1, 1, 2}, "picks 1 3 1 3 3 0 0 0 1 3 3 2 2 2 3 0 0 1 1 3 3 3 3; most 1; late 1; ended; - / - / 3 / 9 9 3 3"},
		{planOf([]int{0, 1}, "set 3, put 0, put 1, put 0, close 0", "set 9, put 1, put 0, wait 0, close 1", "choose 0 1, add 1, unless 0 4, end", "set 4, choose 1 0, jump 1, put 0, end"), []int{3, 3, 3, 3, 3, 3, 3, 3, 3}, "picks 0 3 3 0 3 3 3 3 0 1 1 1 1 1 2 2 2 2 3 3 3 3; most 1; late 2; ended; - / - / 9 / 3 3 3"},
		{planOf([]int{0, 0, 1}, "choose 0 1, put 2, choose 0 1, put 2, close 2", "set 1, put 0, set 2, put 1", "set 3, put 1, set 4, put 0", "take 2 3, take 2 3, take 2 3, end"), []int{1, 1, 0, 2, 2}, "picks 2 1 0 0 2 1 2 3 0 0 3 3 3; most 1; late 0; stuck; 1 3 / - / - / 1 3"},
		{planOf([]int{0, 0, 1}, "choose 1 0, put 2, choose 1 0, put 2, close 2", "set 1, put 0, set 2, put 1", "set 3, put 1, set 4, put 0", "take 2 3, take 2 3, take 2 3, end"), []int{0, 0, 2, 1, 0, 0, 0, -1}, "picks 1 0 2 1 0 0 3 0 0 3 3 3; most 1; late 0; stuck; 1 2 / - / - / 1 2"},
		{planOf([]int{3}, "set 5, put 0, put 0, close 0, put 0", "close 0, take 0 4, take 0 4, take 0 4", "wait 1, close 0, take 0 3"), []int{1, 0, 0, -2, 4, 4}, "picks 1 0 0 0 0 0 1 2 2 2; most 0; late 5; ended; - / - / -"},
		{planOf([]int{1}, "set -2, put 0, take 0 0, add 3, put 0, wait 1", "take 0 1, unless 3 1, close 0, close 0", "wait 1, put 0"), []int{0, 0, 1, 1, 0, 2}, "65536 picks; most 1; late 21843; - / -2 / -"},
	})
}

// A counter tells numbers by a short rule.
type counter struct{ state int }

func (c *counter) below(n int) int {
	c.state = (c.state*1103515245 + 12345) % (1 << 31)
	return (c.state >> 8) % n
}

// countedOp: an operation by the rule.
func countedOp(c *counter, place, ops, ducts, tasks int) api.Op {
	op := api.Op{Kind: []int{1, 1, 1, 1, 2, 2, 2, 8, 8, 3, 4, 4, 5, 7, 6, 9, 10}[c.below(17)]}
	switch op.Kind {
	case 1, 3:
		op.A = c.below(ducts)
	case 2:
		op.A = c.below(ducts)
		op.B = place + 1 + c.below(ops-place)
	case 8:
		op.A = c.below(ducts)
		op.B = c.below(ducts)
	case 4, 5:
		op.A = c.below(ops+6) - 3
	case 6:
		op.A = place + 1 + c.below(ops-place)
	case 7:
		op.A = c.below(ops + 1)
		op.B = c.below(4)
	case 9:
		op.A = c.below(tasks)
	}
	return op
}

// countedPlan: a plan and a script by the rule.
func countedPlan(seed int) (p api.Plan, script []int) {
	c := &counter{seed}
	for range 1 + c.below(3) {
		p.Caps = append(p.Caps, []int{0, 0, 1, 2}[c.below(4)])
	}
	tasks := 2 + c.below(4)
	for range tasks {
		ops := make([]api.Op, 1+c.below(10))
		for place := range ops {
			ops[place] = countedOp(c, place, len(ops), len(p.Caps), tasks)
		}
		p.Tasks = append(p.Tasks, ops)
	}
	for range c.below(50) {
		script = append(script, c.below(200)-100)
	}
	return p, script
}

// mark: all of a history in one number.
func mark(h api.History) int {
	flag := map[bool]int{true: 1}
	all := append([]int{len(h.Picks)}, h.Picks...)
	all = append(all, h.Most, flag[h.Ended], flag[h.Stuck], h.Late)
	for _, list := range h.Taken {
		all = append(append(all, len(list)), list...)
	}
	m := 0
	for _, x := range all {
		m = (m*31 + x + 1000) % 1000003
	}
	return m
}

// knownMarks: what another program told of the plans and scripts of the seeds from 1 on.
var knownMarks = []int{
	448442, 881871, 942545, 571637, 351124, 989494, 21535, 21535, 882673, 113135, 500489, 77063, 916407, 167371, 822861, 380394, 977728, 391484, 700645, 200157,
	415539, 148873, 684626, 137010, 137010, 822130, 373506, 312974, 415539, 912362, 873920, 143971, 979033, 827002, 333109, 124900, 428165, 60146, 75101, 360245,
	410277, 192300, 281904, 18265, 817927, 668585, 300232, 129580, 586614, 124778, 461952, 85620, 570782, 276693, 722060, 415539, 21535, 548133, 137010, 285171,
	291277, 851205, 664485, 415539, 463021, 946014, 195756, 415539, 956818, 739523, 882673, 936193, 644780, 988297, 92439, 138065, 727856, 840420, 132269, 699311,
	542603, 86154, 348844, 25663, 77317, 811886, 668585, 678209, 357897, 550391, 21535, 21535, 137010, 217801, 803817, 880892, 328298, 600677, 633509, 38332,
	912970, 938366, 936755, 872922, 645905, 343458, 21535, 680791, 864684, 200157, 798942, 384916, 330302, 873920, 436437, 673561, 698876, 72065, 290489, 797048,
	382301, 162442, 668585, 754652, 938228, 272708, 395143, 741232, 85730, 566913, 496609, 786218, 628939, 313162, 490285, 881499, 717344, 398605, 658874, 365549,
	16134, 21535, 713432, 668585, 543328, 765700, 916369, 582890, 550854, 717889, 408355, 804047, 65000, 382301, 142744, 797751, 113037, 191612, 648526, 863571,
	137010, 691109, 365503, 115911, 598652, 630955, 415539, 490565, 738338, 873920, 618835, 37941, 982190, 863571, 654004, 601114, 948416, 237952, 662154, 667830,
	461357, 668616, 179220, 453002, 127906, 509950, 754652, 972525, 192312, 727835, 274071, 149412, 82277, 29430, 116337, 472408, 877150, 580203, 28593, 298492,
}

// P19.2: plans and scripts by a short rule, of which another program told the histories' marks.
func TestKnownMarks(t *testing.T) {
	for i, want := range knownMarks {
		p, script := countedPlan(i + 1)
		h, e := loom.Play(p, script)
		if got := mark(h); e != api.OK || got != want {
			t.Errorf("seed %d: %s, error %d, mark %d; want %d", i+1, inWords(h), e, got, want)
		}
	}
}
