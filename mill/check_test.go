package mill_test

import (
	"fmt"
	"strings"
	"testing"

	"mill/api"
	"mill/mill"
)

// text lays lines one below the other.
func text(lines ...string) string { return strings.Join(lines, "\n") }

// numbered has n lines, each made of a number from 0 on.
func numbered(n int, format string) []string {
	lines := make([]string, n)
	for i := range lines {
		lines[i] = fmt.Sprintf(format, i)
	}
	return lines
}

// after has lines, and more behind them.
func after(lines []string, more ...string) string { return text(append(lines, more...)...) }

type checkCase struct {
	manifest string
	number   int
	errno    api.Errno
}

func tryCheck(t *testing.T, cases []checkCase) {
	t.Helper()
	for _, c := range cases {
		if n, e := mill.Check(c.manifest); n != c.number || e != c.errno {
			t.Errorf("P4: Check(%.90q) = %d, %d, want %d, %d", c.manifest, n, e, c.number, c.errno)
		}
		l, e := mill.Weights(c.manifest)
		if e != c.errno {
			t.Errorf("P5: Weights(%.90q) has error %d, want %d", c.manifest, e, c.errno)
		}
		if e != api.OK && l != nil {
			t.Errorf("P1: Weights(%.90q) = %v with error %d", c.manifest, l, e)
		}
		if e == api.OK && len(l) != c.number {
			t.Errorf("P5: Weights(%.90q) = %v of %d tasks", c.manifest, l, c.number)
		}
	}
}

func TestCheckExamples(t *testing.T) {
	tryCheck(t, []checkCase{
		{"task b = rev a", 1, api.OK},
		{"", 0, api.OK},
		{"task b = rev", 0, api.ErrAction},
		{"task b = rev a | cost 0", 0, api.ErrLine},
		{"task b = rev a |", 0, api.ErrLine},
		{text("pool p 1", "pool p 2"), 1, api.ErrPool},
		{"task b = rev a | pool p", 0, api.ErrPool},
		{text("task b = rev a", "task b = cat"), 1, api.ErrTwice},
		{"task a = rev a", 1, api.ErrCycle},
		{"task b  = rev a", 0, api.ErrLine},
	})
}

func TestCheckLinesThatSayNothing(t *testing.T) {
	tryCheck(t, []checkCase{
		{"\n", 0, api.OK},
		{"\n\n\n", 0, api.OK},
		{"#", 0, api.OK},
		{"#task b = rev a", 0, api.OK},
		{"# any \x00\xff bytes  \r", 0, api.OK},
		{text("", "#", "task b = rev a", "", "# x", ""), 1, api.OK},
		{" ", 0, api.ErrLine},
		{" #", 0, api.ErrLine},
		{text("", "#", "\t"), 2, api.ErrLine},
		{text("", "#", "\r"), 2, api.ErrLine},
		{text("task b = rev a", "# x", "", "task b = rev a # x"), 3, api.ErrLine},
	})
}

func TestCheckLength(t *testing.T) {
	filled := func(head string, n int) string { return head + strings.Repeat("x", n-len(head)) }
	tryCheck(t, []checkCase{
		{filled("#", 1999), 0, api.OK},
		{filled("#", 2000), 0, api.OK},
		{filled("#", 2001), 0, api.ErrLong},
		{filled("task b = rev a\n#", 2000), 1, api.OK},
		{filled("task b = rev a\n#", 2001), 0, api.ErrLong},
		{strings.Repeat("\n", 2000), 0, api.OK},
		{strings.Repeat("\n", 2001), 0, api.ErrLong},
		// the length is named ahead of all that is wrong in lines
		{filled("nonsense\n#", 2000), 0, api.ErrLine},
		{filled("\nnonsense\n#", 2001), 0, api.ErrLong},
		{filled("task a = rev a\n#", 2001), 0, api.ErrLong},
		{strings.Repeat("task b = cat\n", 1000), 0, api.ErrLong},
	})
}

func TestCheckNames(t *testing.T) {
	long := "abcdefghij012._z"
	longer := long + "x"
	tryCheck(t, []checkCase{
		{"task " + long + " = rev a", 1, api.OK},
		{"task " + longer + " = rev a", 0, api.ErrLine},
		{"task b = rev " + long, 1, api.OK},
		{"task b = rev " + longer, 0, api.ErrLine},
		{"task b = " + long, 0, api.ErrAction},
		{"task b = " + longer, 0, api.ErrLine},
		{"pool " + long + " 1", 0, api.OK},
		{"pool " + longer + " 1", 0, api.ErrLine},
		{text("pool "+long+" 1", "task b = cat | pool "+long), 1, api.OK},
		{"task b = cat | pool " + long, 0, api.ErrPool},
		{"task b = cat | pool " + longer, 0, api.ErrLine},
		{"task . = cat _", 1, api.OK},
		{"task 0 = cat ..", 1, api.OK},
		// words of the lines are names as good as others
		{"task task = cat pool cost jobs cat | cost 1", 1, api.OK},
		{text("pool pool 1", "pool cost 1", "task b = cat | pool cost cost 2"), 1, api.OK},
		{"task b~ = cat", 0, api.ErrLine},
		{"task b = cat a~", 0, api.ErrLine},
		{"task b-c = cat", 0, api.ErrLine},
		{"task b/c = cat", 0, api.ErrLine},
		{"task B = cat", 0, api.ErrLine},
		{"task b = caT", 0, api.ErrLine},
		{"task b = cat \u00e4", 0, api.ErrLine},
		{"task b\x00 = cat", 0, api.ErrLine},
		{"pool p~ 1", 0, api.ErrLine},
	})
}

func TestCheckPoolLines(t *testing.T) {
	tryCheck(t, []checkCase{
		{"pool p 1", 0, api.OK}, {"pool p 9", 0, api.OK},
		{"pool p 0", 0, api.ErrLine}, {"pool p 10", 0, api.ErrLine}, {"pool p 01", 0, api.ErrLine},
		{"pool p -1", 0, api.ErrLine}, {"pool p +1", 0, api.ErrLine}, {"pool p a", 0, api.ErrLine},
		{"pool p :", 0, api.ErrLine}, {"pool p /", 0, api.ErrLine},
		{"pool", 0, api.ErrLine}, {"pool ", 0, api.ErrLine}, {"pool p", 0, api.ErrLine}, {"pool p ", 0, api.ErrLine},
		{"pool  1", 0, api.ErrLine}, {"pool 1", 0, api.ErrLine}, {"pool p  1", 0, api.ErrLine}, {"pool p 1 ", 0, api.ErrLine},
		{" pool p 1", 0, api.ErrLine}, {"pool p 1 1", 0, api.ErrLine}, {"pool p 1 | cost 1", 0, api.ErrLine},
		{"Pool p 1", 0, api.ErrLine}, {"pools p 1", 0, api.ErrLine}, {"pool\tp 1", 0, api.ErrLine}, {"pool p 1\r", 0, api.ErrLine},
	})
}

func TestCheckTaskLines(t *testing.T) {
	tryCheck(t, []checkCase{
		{"task", 0, api.ErrLine}, {"task ", 0, api.ErrLine}, {"task b", 0, api.ErrLine}, {"task b =", 0, api.ErrLine},
		{"task b = ", 0, api.ErrLine}, {"task = cat", 0, api.ErrLine}, {"task =", 0, api.ErrLine}, {"task  = cat", 0, api.ErrLine},
		{"task b cat a", 0, api.ErrLine}, {"task b=cat a", 0, api.ErrLine}, {"task b = = cat", 0, api.ErrLine}, {"task b = cat = a", 0, api.ErrLine},
		{"task b = cat a ", 0, api.ErrLine}, {" task b = cat a", 0, api.ErrLine}, {"task b = cat  a", 0, api.ErrLine}, {"task b =  cat a", 0, api.ErrLine},
		{"task\tb = cat", 0, api.ErrLine}, {"task b = cat\t", 0, api.ErrLine}, {"task b = cat a\r", 0, api.ErrLine}, {"b = cat a", 0, api.ErrLine},
		{"tasks b = cat", 0, api.ErrLine}, {"TASK b = cat", 0, api.ErrLine}, {"= task b = cat", 0, api.ErrLine}, {"| cost 1", 0, api.ErrLine},
		{"task b | cost 1 = cat", 0, api.ErrLine}, {"task | = cat", 0, api.ErrLine}, {"task b = | cost 1", 0, api.ErrLine},
	})
}

func TestCheckOptions(t *testing.T) {
	const head = "task b = cat a | "
	tryCheck(t, []checkCase{
		{head + "cost 1", 1, api.OK}, {head + "cost 9", 1, api.OK}, {head + "jobs 1", 1, api.OK}, {head + "jobs 9", 1, api.OK},
		{head + "cost 2 jobs 3", 1, api.OK}, {head + "jobs 3 cost 2", 1, api.OK}, {"task b = cat | cost 1", 1, api.OK},
		{text("pool p 1", head+"jobs 3 pool p cost 2"), 1, api.OK},
		{head, 0, api.ErrLine}, {head + "cost", 0, api.ErrLine}, {head + "jobs", 0, api.ErrLine}, {head + "pool", 0, api.ErrLine},
		{head + "cost 0", 0, api.ErrLine}, {head + "jobs 0", 0, api.ErrLine}, {head + "cost 10", 0, api.ErrLine}, {head + "jobs 10", 0, api.ErrLine},
		{head + "cost a", 0, api.ErrLine}, {head + "jobs -1", 0, api.ErrLine}, {head + "cost 1 cost 1", 0, api.ErrLine}, {head + "jobs 1 cost 2 jobs 1", 0, api.ErrLine},
		{text("pool p 1", head+"pool p pool p"), 1, api.ErrLine}, {text("pool p 1", "pool q 1", head+"pool p pool q"), 2, api.ErrLine},
		{head + "cost 1 |", 0, api.ErrLine}, {head + "cost 1 | jobs 1", 0, api.ErrLine}, {head + "| cost 1", 0, api.ErrLine}, {head + "cost 1 2", 0, api.ErrLine},
		{head + "weight 1", 0, api.ErrLine}, {head + "a", 0, api.ErrLine}, {head + "1", 0, api.ErrLine}, {head + "1 cost", 0, api.ErrLine},
		{head + "Cost 1", 0, api.ErrLine}, {head + "cost  1", 0, api.ErrLine}, {head + "cost 1 ", 0, api.ErrLine}, {head + " cost 1", 0, api.ErrLine},
		{head + "cost=1", 0, api.ErrLine}, {head + "cost = 1", 0, api.ErrLine}, {head + "pool P", 0, api.ErrLine}, {head + "pool |", 0, api.ErrLine},
		{"task b = cat a |cost 1", 0, api.ErrLine}, {"task b = cat a| cost 1", 0, api.ErrLine},
	})
}

func TestCheckPools(t *testing.T) {
	tryCheck(t, []checkCase{
		{text(numbered(6, "pool p%d 1")...), 0, api.OK},
		{text(numbered(7, "pool p%d 1")...), 6, api.ErrLong},
		{after(numbered(6, "pool p%d 1"), "task b = cat | pool p5"), 1, api.OK},
		{after(numbered(6, "pool p%d 1"), "", "pool p3 1"), 7, api.ErrPool},
		{after(numbered(6, "pool p%d 1"), "pool p6 0"), 6, api.ErrLine},
		{text("pool p 1", "task b = cat", "pool p 1"), 2, api.ErrPool},
		{text("pool p 1", "task b = cat | pool p", "task c = cat | pool p"), 2, api.OK},
		{text("pool p 1", "task b = cat | pool q"), 1, api.ErrPool},
		{text("task b = cat | pool p", "pool p 1"), 0, api.ErrPool},
		{text("task p = cat", "task b = cat | pool p"), 1, api.ErrPool},
		{text("pool b 1", "task b = cat b | pool b"), 2, api.ErrCycle},
	})
}

func TestCheckTasks(t *testing.T) {
	full := func() []string { return numbered(24, "task t%d = cat") }
	tryCheck(t, []checkCase{
		{text(full()...), 24, api.OK},
		{after(full(), "", "#"), 24, api.OK},
		{after(full(), "pool p 1"), 24, api.OK},
		{after(full(), "task u = cat"), 24, api.ErrLong},
		{after(full(), "# x", "task u = cat"), 25, api.ErrLong},
		{after(full(), "nonsense"), 24, api.ErrLine},
	})
}

func TestCheckActions(t *testing.T) {
	shapes := map[string][3]int{"cat": {1, 0, 4}, "rev": {1, 1, 1}, "half": {2, 1, 1}, "count": {1, 1, 4}, "gate": {1, 1, 1}}
	for _, action := range []string{"cat", "rev", "half", "count", "gate", "dog", "cats", "ca", "0", "=cat"} {
		for outputs := 1; outputs <= 5; outputs++ {
			for inputs := range 8 {
				m := "task" + strings.Join(append([]string{""}, numbered(outputs, "o%d")...), " ") + " = " + action + strings.Join(append([]string{""}, numbered(inputs, "i%d")...), " ")
				shape, there := shapes[action]
				c := checkCase{m, 0, api.ErrAction}
				switch {
				case action == "=cat":
					c.errno = api.ErrLine
				case there && outputs == shape[0] && shape[1] <= inputs && inputs <= shape[2]:
					c = checkCase{m, 1, api.OK}
				}
				tryCheck(t, []checkCase{c})
			}
		}
	}
}

func TestCheckOutputsTwice(t *testing.T) {
	tryCheck(t, []checkCase{
		{"task b b = half a", 0, api.ErrTwice},
		{text("task b c = half a", "task c = cat"), 1, api.ErrTwice},
		{text("task b = cat", "", "task c b = half a"), 2, api.ErrTwice},
		{text("task b = cat", "task c = cat", "task b = cat"), 2, api.ErrTwice},
		{text("task b = cat x x x x", "task c = cat x"), 2, api.OK},
		{text("task b = cat", "task c = cat b b"), 2, api.OK},
	})
}

func TestCheckRings(t *testing.T) {
	chain := func(n int, last string) string {
		return after(numbered(n, "task t%d = cat s%[1]d"), last)
	}
	ring := make([]string, 24)
	for i := range ring {
		ring[i] = fmt.Sprintf("task t%d = cat t%d", i, (i+1)%24)
	}
	open := append(append([]string{}, ring[:23]...), "task t23 = cat x")
	tryCheck(t, []checkCase{
		{"task a = cat b a", 1, api.ErrCycle},
		{"task a b = half a", 1, api.ErrCycle},
		{"task a b = half b", 1, api.ErrCycle},
		{text("task a = rev b", "task b = rev a"), 2, api.ErrCycle},
		{text("", "task a = rev b", "#", "task b = rev a", ""), 5, api.ErrCycle},
		{text("task a b = half c", "task c = cat b"), 2, api.ErrCycle},
		{text("task x = cat", "task a = cat x b", "task y = cat a", "task b = cat y"), 4, api.ErrCycle},
		{text("task x = cat a", "task a = cat b", "task b = cat a"), 3, api.ErrCycle},
		{text(ring...), 24, api.ErrCycle},
		{text(open...), 24, api.OK},
		{text("task d = cat b c", "task c = cat a", "task b = cat a", "task a = cat x"), 4, api.OK},
		{chain(5, "task s4 = cat t3"), 6, api.OK},
		// a ring is told only when no line is wrong
		{text("task a = rev b", "task b = rev a", "nonsense"), 2, api.ErrLine},
		{text("task a = rev a", "task a = cat"), 1, api.ErrTwice},
		{text("task a = rev a", "task b = cat | pool p"), 1, api.ErrPool},
	})
}

// Where several errors apply to a line the one named first is told, and the first wrong line ahead of all others.
func TestCheckErrorNamedFirst(t *testing.T) {
	full := func() []string { return numbered(24, "task t%d = cat") }
	tryCheck(t, []checkCase{
		{after(numbered(6, "pool p%d 1"), "pool p0 1"), 6, api.ErrPool},
		{after(full(), "task t0 = dog | pool p"), 24, api.ErrLong},
		{after(full(), "task u = dog"), 24, api.ErrLong},
		{after(full(), "task t0 = cat"), 24, api.ErrLong},
		{after(full(), "task t0 = dog | pool p cost 0"), 24, api.ErrLine},
		{text("task b = cat", "task b = dog | pool p"), 1, api.ErrPool},
		{text("task b = cat", "task b = cat | pool p"), 1, api.ErrPool},
		{text("task b = cat", "task b = dog"), 1, api.ErrAction},
		{text("task b = cat", "task b b = cat"), 1, api.ErrAction},
		{text("task b = dog", "nonsense"), 0, api.ErrAction},
		{text("nonsense", "task b = dog"), 0, api.ErrLine},
		{text("task b = cat | pool p", "task b b = half a"), 0, api.ErrPool},
		{text("task b b = half a", "task c = cat | pool p"), 0, api.ErrTwice},
	})
}
