package mill_test

import (
	"fmt"
	"slices"
	"strings"
	"testing"

	"mill/api"
	"mill/mill"
)

// list has files: of a path, its data, a path, its data, and so on.
func list(words ...string) []api.File {
	var files []api.File
	for pair := range slices.Chunk(words, 2) {
		files = append(files, api.File{Path: pair[0], Data: pair[1]})
	}
	return files
}

// with has so many workers and all tokens; nothing stops the build.
func with(workers int) api.Options {
	return api.Options{Workers: workers, Tokens: 9, Cancel: api.Never, Crash: api.Never}
}

// story is events as a text: the tick, the kind, the task, and the worker where one had to do with it.
func story(events []api.Event) string {
	var words []string
	for _, e := range events {
		kind := []string{"?", "started", "ended", "broke", "kept", "skipped"}[e.Kind]
		word := fmt.Sprintf("%d:%s %d", e.Tick, kind, e.Task)
		if e.Kind <= api.Broke || e.Worker != 0 {
			word += fmt.Sprintf(" by %d", e.Worker)
		}
		words = append(words, word)
	}
	return strings.Join(words, ", ")
}

// mustBuild builds what there is no error in.
func mustBuild(t *testing.T, manifest string, files []api.File, log string, o api.Options) api.Report {
	t.Helper()
	r, e := mill.Build(manifest, files, log, o)
	if e != api.OK {
		t.Fatalf("P8: Build(%q, %.200q, %+v) has error %d", manifest, files, o, e)
	}
	return r
}

// show is a report that can be read, whatever bytes are in it.
func show(r api.Report) string {
	return fmt.Sprintf("{files %q, log %x, states %v, events %s, %d ticks, %d operations}", r.Files, r.Log, r.State, story(r.Events), r.Ticks, r.Ops)
}

func sameReport(a, b api.Report) bool {
	return slices.Equal(a.Files, b.Files) && a.Log == b.Log && slices.Equal(a.State, b.State) && slices.Equal(a.Events, b.Events) && a.Ticks == b.Ticks && a.Ops == b.Ops
}

// buildCase: what is built, and what is to come of it.
type buildCase struct {
	why      string
	manifest string
	options  api.Options
	story    string
	state    []int
	ticks    int
}

// tryBuilds builds out of the files a, which is fine, and n, which no gate lets through.
func tryBuilds(t *testing.T, cases []buildCase) {
	t.Helper()
	for _, c := range cases {
		r := mustBuild(t, c.manifest, list("a", "xyz", "n", "no!"), "", c.options)
		if story(r.Events) != c.story || !slices.Equal(r.State, c.state) || r.Ticks != c.ticks {
			t.Errorf("P10: %s: %q:\n%s, %v, %d ticks, want\n%s, %v, %d ticks", c.why, c.manifest, story(r.Events), r.State, r.Ticks, c.story, c.state, c.ticks)
		}
	}
}

const threeTasks = "task b = rev a | cost 2\ntask c = cat b b\ntask d = cat a | cost 5"

func TestBuildExamples(t *testing.T) {
	in, out := list("a", "xyz"), list("a", "xyz", "b", "zyx", "c", "zyxzyx", "d", "xyz")
	one := mustBuild(t, threeTasks, in, "", with(1))
	two := mustBuild(t, threeTasks, in, "", with(2))
	oneStory := "0:started 2 by 0, 5:ended 2 by 0, 5:started 0 by 0, 7:ended 0 by 0, 7:started 1 by 0, 8:ended 1 by 0"
	twoStory := "0:started 2 by 0, 0:started 0 by 1, 2:ended 0 by 1, 2:started 1 by 1, 3:ended 1 by 1, 5:ended 2 by 0"
	b := made(mill.Sum("rev\n3:xyz"), mill.Sum("zyx"))
	c := made(mill.Sum("cat\n3:zyx3:zyx"), mill.Sum("zyxzyx"))
	d := made(mill.Sum("cat\n3:xyz"), mill.Sum("xyz"))
	for _, try := range []struct {
		got               api.Report
		story, log        string
		files             []api.File
		state             []int
		ticks, operations int
	}{
		{one, oneStory, d + b + c, out, []int{1, 1, 1}, 8, 15},
		{two, twoStory, b + c + d, out, []int{1, 1, 1}, 5, 15},
		{mustBuild(t, threeTasks, two.Files, two.Log, with(1)), "0:kept 0, 0:kept 1, 0:kept 2", two.Log, out, []int{2, 2, 2}, 0, 0},
		{mustBuild(t, threeTasks, one.Files, one.Log, with(8)), "0:kept 0, 0:kept 1, 0:kept 2", one.Log, out, []int{2, 2, 2}, 0, 0},
		{mustBuild(t, threeTasks, in, "", api.Options{Workers: 1, Tokens: 9, Cancel: 3, Crash: api.Never}), "0:started 2 by 0, 5:ended 2 by 0", d, list("a", "xyz", "d", "xyz"), []int{0, 0, 1}, 5, 5},
		{mustBuild(t, text("task b = gate a", "task c = rev b"), list("a", "no!"), "", with(1)), "0:started 0 by 0, 1:broke 0 by 0, 1:skipped 1", "", list("a", "no!"), []int{3, 4}, 1, 0},
		{mustBuild(t, "task b = rev a", in, "", with(1)), "0:started 0 by 0, 1:ended 0 by 0", b, list("a", "xyz", "b", "zyx"), []int{1}, 1, 5},
	} {
		r := try.got
		if story(r.Events) != try.story || r.Log != try.log || !slices.Equal(r.Files, try.files) || !slices.Equal(r.State, try.state) || r.Ticks != try.ticks || r.Ops != try.operations {
			t.Errorf("P11: %s, want %+q, %v, %d, %d", show(r), []string{try.story, try.log}, try.state, try.ticks, try.operations)
		}
	}
}

func TestTokensExamples(t *testing.T) {
	m := text("task b = cat a | jobs 3", "task c = cat a", "task d = cat a | jobs 2")
	few := func(tokens int) api.Options {
		o := with(8)
		o.Tokens = tokens
		return o
	}
	tryBuilds(t, []buildCase{
		{"with one token all run one after the other", m, few(1), "0:started 0 by 0, 1:ended 0 by 0, 1:started 1 by 0, 2:ended 1 by 0, 2:started 2 by 0, 3:ended 2 by 0", []int{1, 1, 1}, 3},
		{"with two, three jobs hold both", m, few(2), "0:started 0 by 0, 1:ended 0 by 0, 1:started 1 by 0, 2:ended 1 by 0, 2:started 2 by 0, 3:ended 2 by 0", []int{1, 1, 1}, 3},
		{"with three, one and two are held together", m, few(3), "0:started 0 by 0, 1:ended 0 by 0, 1:started 1 by 0, 1:started 2 by 1, 2:ended 1 by 0, 2:ended 2 by 1", []int{1, 1, 1}, 2},
		{"with four, the second one passes the third", m, few(4), "0:started 0 by 0, 0:started 1 by 1, 1:ended 0 by 0, 1:ended 1 by 1, 1:started 2 by 0, 2:ended 2 by 0", []int{1, 1, 1}, 2},
		{"with six there is room for all", m, few(6), "0:started 0 by 0, 0:started 1 by 1, 0:started 2 by 2, 1:ended 0 by 0, 1:ended 1 by 1, 1:ended 2 by 2", []int{1, 1, 1}, 1},
		{"nine jobs hold all nine", text("task b = cat a | jobs 9", "task c = cat a"), few(9), "0:started 0 by 0, 1:ended 0 by 0, 1:started 1 by 0, 2:ended 1 by 0", []int{1, 1}, 2},
		{"tokens come back at the tick at which a task ends, not ahead of it", text("task b = cat a | jobs 2 cost 3", "task c = cat a | jobs 1 cost 2", "task d = cat a | jobs 2"), few(3), "0:started 0 by 0, 0:started 1 by 1, 2:ended 1 by 1, 3:ended 0 by 0, 3:started 2 by 0, 4:ended 2 by 0", []int{1, 1, 1}, 4},
	})
}

func TestPools(t *testing.T) {
	tryBuilds(t, []buildCase{
		{"a pool of one", text("pool p 1", "task b = cat a | pool p", "task c = cat a | pool p cost 2", "task d = cat a"), with(8), "0:started 1 by 0, 0:started 2 by 1, 1:ended 2 by 1, 2:ended 1 by 0, 2:started 0 by 0, 3:ended 0 by 0", []int{1, 1, 1}, 3},
		{"a pool of two", text("pool p 2", "task b = cat a | pool p", "task c = cat a | pool p cost 2", "task d = cat a | pool p"), with(8), "0:started 1 by 0, 0:started 0 by 1, 1:ended 0 by 1, 1:started 2 by 1, 2:ended 1 by 0, 2:ended 2 by 1", []int{1, 1, 1}, 2},
		{"each pool has a depth of its own", text("pool q 2", "pool p 1", "task b = cat a | pool p", "task c = cat a | pool q", "task d = cat a | pool q", "task e = cat a | pool p"), with(8), "0:started 0 by 0, 0:started 1 by 1, 0:started 2 by 2, 1:ended 0 by 0, 1:ended 1 by 1, 1:ended 2 by 2, 1:started 3 by 0, 2:ended 3 by 0", []int{1, 1, 1, 1}, 2},
		{"those without a pool are not held up", text("pool p 1", "task b = cat a | pool p cost 9", "task c = cat a | cost 8 pool p", "task d = cat a", "task e = cat a"), with(3), "0:started 0 by 0, 0:started 2 by 1, 0:started 3 by 2, 1:ended 2 by 1, 1:ended 3 by 2, 9:ended 0 by 0, 9:started 1 by 0, 17:ended 1 by 0", []int{1, 1, 1, 1}, 17},
		{"one that fails leaves its pool, its tokens and its worker", text("pool p 1", "task b = gate n | pool p jobs 9", "task c = cat a | pool p jobs 9"), with(2), "0:started 0 by 0, 1:broke 0 by 0, 1:started 1 by 0, 2:ended 1 by 0", []int{3, 1}, 2},
		{"a pool deeper than the workers are many", text("pool p 9", "task b = cat a | pool p", "task c = cat a | pool p", "task d = cat a | pool p"), with(2), "0:started 0 by 0, 0:started 1 by 1, 1:ended 0 by 0, 1:ended 1 by 1, 1:started 2 by 0, 2:ended 2 by 0", []int{1, 1, 1}, 2},
	})
}

func TestOrderOfBeginning(t *testing.T) {
	tryBuilds(t, []buildCase{
		{"nothing to do", "", with(1), "", nil, 0},
		{"nothing but a pool", "pool p 1", with(8), "", nil, 0},
		{"of equal weights the lowest number", text("task b = cat a", "task c = cat a", "task d = cat a"), with(1), "0:started 0 by 0, 1:ended 0 by 0, 1:started 1 by 0, 2:ended 1 by 0, 2:started 2 by 0, 3:ended 2 by 0", []int{1, 1, 1}, 3},
		{"the greatest weight, not the greatest cost", text("task b = cat a | cost 4", "task c = cat a", "task d = cat c | cost 9"), with(1), "0:started 1 by 0, 1:ended 1 by 0, 1:started 2 by 0, 10:ended 2 by 0, 10:started 0 by 0, 14:ended 0 by 0", []int{1, 1, 1}, 14},
		{"those that end at one tick end by their numbers, not by their workers", text("task b = cat a | cost 2", "task c = cat a | cost 3", "task d = cat a | cost 3"), with(3), "0:started 1 by 0, 0:started 2 by 1, 0:started 0 by 2, 2:ended 0 by 2, 3:ended 1 by 0, 3:ended 2 by 1", []int{1, 1, 1}, 3},
		{"by their numbers, not in the order in which they were begun", text("task d = rev c", "task b = cat a | cost 2", "task c = cat a"), with(2), "0:started 1 by 0, 0:started 2 by 1, 1:ended 2 by 1, 1:started 0 by 1, 2:ended 0 by 1, 2:ended 1 by 0", []int{1, 1, 1}, 2},
		{"the free worker of the lowest number", text("task b = cat a | cost 3", "task c = cat a | cost 2", "task d = cat a | cost 2", "task e = cat d | cost 5", "task f = cat a"), with(4), "0:started 2 by 0, 0:started 0 by 1, 0:started 1 by 2, 0:started 4 by 3, 1:ended 4 by 3, 2:ended 1 by 2, 2:ended 2 by 0, 2:started 3 by 0, 3:ended 0 by 1, 7:ended 3 by 0", []int{1, 1, 1, 1, 1}, 7},
		{"all that was waited for must be made", text("task e = cat b c d", "task d = cat a | cost 3", "task c = cat a | cost 2", "task b = cat a"), with(8), "0:started 1 by 0, 0:started 2 by 1, 0:started 3 by 2, 1:ended 3 by 2, 2:ended 2 by 1, 3:ended 1 by 0, 3:started 0 by 0, 4:ended 0 by 0", []int{1, 1, 1, 1}, 4},
		{"both outputs of one task are made at once", text("task b c = half a | cost 2", "task d = cat c", "task e = cat b"), with(8), "0:started 0 by 0, 2:ended 0 by 0, 2:started 1 by 0, 2:started 2 by 1, 3:ended 1 by 0, 3:ended 2 by 1", []int{1, 1, 1}, 3},
	})
}

func TestFailedAndSkipped(t *testing.T) {
	tryBuilds(t, []buildCase{
		{"all that hang on it, near and far", text("task b = gate n", "task c = rev b", "task d = rev c", "task e = rev d"), with(1), "0:started 0 by 0, 1:broke 0 by 0, 1:skipped 1, 1:skipped 2, 1:skipped 3", []int{3, 4, 4, 4}, 1},
		{"again and again, by their numbers", text("task e = rev d", "task d = rev c", "task c = rev b", "task b = gate n"), with(1), "0:started 3 by 0, 1:broke 3 by 0, 1:skipped 2, 1:skipped 1, 1:skipped 0", []int{4, 4, 4, 3}, 1},
		{"what does not hang on it goes on", text("task b = gate n", "task c = rev b", "task d = rev a", "task e = cat d a"), with(1), "0:started 0 by 0, 1:broke 0 by 0, 1:skipped 1, 1:started 2 by 0, 2:ended 2 by 0, 2:started 3 by 0, 3:ended 3 by 0", []int{3, 4, 1, 1}, 3},
		{"skipped at once, though another one that it waits for still runs", text("task b = gate n", "task c = cat a | cost 5", "task d = cat c b", "task e = cat d"), with(2), "0:started 1 by 0, 0:started 0 by 1, 1:broke 0 by 1, 1:skipped 2, 1:skipped 3, 5:ended 1 by 0", []int{3, 1, 4, 4}, 5},
		{"skipped at once, though another one that it waits for was not begun", text("task b = gate n", "task c = cat a", "task d = cat c b"), with(1), "0:started 0 by 0, 1:broke 0 by 0, 1:skipped 2, 1:started 1 by 0, 2:ended 1 by 0", []int{3, 1, 4}, 2},
		{"both outputs are missing", text("task b c = half g", "task d = cat b", "task e = cat c", "task g = gate n"), with(2), "0:started 3 by 0, 1:broke 3 by 0, 1:skipped 0, 1:skipped 1, 1:skipped 2", []int{4, 4, 4, 3}, 1},
		{"two that fail at once", text("task b = gate n", "task c = gate n", "task d = cat b c"), with(2), "0:started 0 by 0, 0:started 1 by 1, 1:broke 0 by 0, 1:broke 1 by 1, 1:skipped 2", []int{3, 3, 4}, 1},
	})
}

// What fails leaves alone what lies at its outputs, and writes nothing.
func TestFailedMakesNothing(t *testing.T) {
	m := text("task b = gate n", "task c d = half long", "task e = cat b c")
	in := list("b", "old", "c", "older", "e", "oldest", "long", strings.Repeat("x", 513), "n", "!")
	r := mustBuild(t, m, in, "", with(3))
	want := list("b", "old", "c", "older", "e", "oldest", "long", strings.Repeat("x", 513), "n", "!")
	if !slices.Equal(r.Files, want) || r.Log != "" || r.Ops != 0 || !slices.Equal(r.State, []int{3, 3, 4}) {
		t.Errorf("P10: %s", show(r))
	}
}

func TestCancel(t *testing.T) {
	m := text("task b = cat a | cost 2", "task c = cat b | cost 2", "task d = gate n | cost 3", "task e = cat d", "task f = cat a")
	at := func(tick int) api.Options {
		o := with(2)
		o.Cancel = tick
		return o
	}
	begin := "0:started 0 by 0, 0:started 2 by 1"
	tryBuilds(t, []buildCase{
		{"at 0 nothing is begun", m, at(0), "", []int{0, 0, 0, 0, 0}, 0},
		{"what runs goes on, and who waits for what failed is skipped", m, at(1), begin + ", 2:ended 0 by 0, 3:broke 2 by 1, 3:skipped 3", []int{1, 0, 3, 4, 0}, 3},
		{"at the tick itself nothing is begun any more", m, at(2), begin + ", 2:ended 0 by 0, 3:broke 2 by 1, 3:skipped 3", []int{1, 0, 3, 4, 0}, 3},
		{"ahead of it all goes on", m, at(3), begin + ", 2:ended 0 by 0, 2:started 1 by 0, 3:broke 2 by 1, 3:skipped 3, 4:ended 1 by 0", []int{1, 1, 3, 4, 0}, 4},
		{"one later", m, at(4), begin + ", 2:ended 0 by 0, 2:started 1 by 0, 3:broke 2 by 1, 3:skipped 3, 3:started 4 by 1, 4:ended 1 by 0, 4:ended 4 by 1", []int{1, 1, 3, 4, 1}, 4},
		{"far behind the end", m, at(1 << 62), begin + ", 2:ended 0 by 0, 2:started 1 by 0, 3:broke 2 by 1, 3:skipped 3, 3:started 4 by 1, 4:ended 1 by 0, 4:ended 4 by 1", []int{1, 1, 3, 4, 1}, 4},
	})
}

func TestBudget(t *testing.T) {
	m := text("task b = gate n | cost 2", "task c = gate n | cost 3", "task d = cat a | cost 4", "task e = cat b", "task f = gate n", "task g = cat a")
	of := func(workers, budget int) api.Options {
		o := with(workers)
		o.Budget = budget
		return o
	}
	three := "0:started 2 by 0, 0:started 0 by 1, 0:started 1 by 2, 2:broke 0 by 1, 2:skipped 3"
	tryBuilds(t, []buildCase{
		{"behind the first one", m, of(3, 1), three + ", 3:broke 1 by 2, 4:ended 2 by 0", []int{3, 3, 1, 4, 0, 0}, 4},
		{"behind the second one", m, of(3, 2), three + ", 2:started 4 by 1, 3:broke 1 by 2, 3:broke 4 by 1, 4:ended 2 by 0", []int{3, 3, 1, 4, 3, 0}, 4},
		{"three have failed where two were enough", text("task b = gate n", "task c = gate n", "task d = gate n", "task e = cat a"), of(3, 2), "0:started 0 by 0, 0:started 1 by 1, 0:started 2 by 2, 1:broke 0 by 0, 1:broke 1 by 1, 1:broke 2 by 2", []int{3, 3, 3, 0}, 1},
		{"those that are skipped have not failed", text("task b = gate n", "task c = rev b", "task d = rev c", "task e = cat a"), of(1, 2), "0:started 0 by 0, 1:broke 0 by 0, 1:skipped 1, 1:skipped 2, 1:started 3 by 0, 2:ended 3 by 0", []int{3, 4, 4, 1}, 2},
		{"never so many", m, of(3, 4), three + ", 2:started 4 by 1, 3:broke 1 by 2, 3:broke 4 by 1, 3:started 5 by 1, 4:ended 2 by 0, 4:ended 5 by 1", []int{3, 3, 1, 4, 3, 1}, 4},
		{"as many as they are in the end", m, of(3, 3), three + ", 2:started 4 by 1, 3:broke 1 by 2, 3:broke 4 by 1, 4:ended 2 by 0", []int{3, 3, 1, 4, 3, 0}, 4},
		{"none is named", m, of(3, 0), three + ", 2:started 4 by 1, 3:broke 1 by 2, 3:broke 4 by 1, 3:started 5 by 1, 4:ended 2 by 0, 4:ended 5 by 1", []int{3, 3, 1, 4, 3, 1}, 4},
	})
}

// Nothing is begun any more, but what is up to date is kept all the same, also behind what ends later.
func TestKeptThoughStopped(t *testing.T) {
	m := text("task b = cat a", "task c = cat b", "task d = cat n | cost 3", "task e = cat d")
	first := mustBuild(t, m, list("a", "xyz", "n", "no!"), "", with(1))
	o := with(1)
	o.Cancel = 0
	if r := mustBuild(t, m, first.Files, first.Log, o); story(r.Events) != "0:kept 0, 0:kept 1, 0:kept 2, 0:kept 3" {
		t.Errorf("P10: %s", story(r.Events))
	}
	o.Cancel = 1
	without := slices.DeleteFunc(slices.Clone(first.Files), func(f api.File) bool { return f.Path == "d" })
	if r := mustBuild(t, m, without, first.Log, o); story(r.Events) != "0:kept 0, 0:kept 1, 0:started 2 by 0, 3:ended 2 by 0, 3:kept 3" || r.Ticks != 3 || r.Ops != 5 {
		t.Errorf("P10: %s, %d ticks, %d operations", story(r.Events), r.Ticks, r.Ops)
	}
}

// What each action makes of the inputs a, b and so on; nil, if it fails.
func TestActions(t *testing.T) {
	x := func(n int) string { return strings.Repeat("x", n) }
	bytes := ""
	for i := range 256 {
		bytes += string([]byte{byte(i)})
	}
	turned := []byte(bytes)
	slices.Reverse(turned)
	for _, c := range []struct {
		action string
		inputs []string
		want   []string
	}{
		{"cat", nil, []string{""}},
		{"cat", []string{""}, []string{""}},
		{"cat", []string{bytes}, []string{bytes}},
		{"cat", []string{"12", "", "3", "21"}, []string{"12321"}},
		{"cat", []string{"!", "no!"}, []string{"!no!"}},
		{"cat", []string{x(100), x(100), x(56)}, []string{x(256)}},
		{"cat", []string{x(100), x(100), x(57)}, nil},
		{"cat", []string{x(257)}, nil},
		{"cat", []string{x(5000), x(5000), x(5000), x(5000)}, nil},
		{"rev", []string{""}, []string{""}},
		{"rev", []string{"x"}, []string{"x"}},
		{"rev", []string{"ab"}, []string{"ba"}},
		{"rev", []string{"é"}, []string{"\xa9\xc3"}},
		{"rev", []string{bytes}, []string{string(turned)}},
		{"rev", []string{x(257)}, nil},
		{"half", []string{""}, []string{"", ""}},
		{"half", []string{"1"}, []string{"", "1"}},
		{"half", []string{"12"}, []string{"1", "2"}},
		{"half", []string{"123"}, []string{"1", "23"}},
		{"half", []string{bytes}, []string{bytes[:128], bytes[128:]}},
		{"half", []string{x(511)}, []string{x(255), x(256)}},
		{"half", []string{x(512)}, []string{x(256), x(256)}},
		{"half", []string{x(513)}, nil},
		{"half", []string{x(514)}, nil},
		{"count", []string{""}, []string{"0"}},
		{"count", []string{"", "", "", ""}, []string{"0"}},
		{"count", []string{x(9)}, []string{"9"}},
		{"count", []string{x(9), "!"}, []string{"10"}},
		{"count", []string{bytes, x(257), "", x(500)}, []string{"1013"}},
		{"count", []string{x(1 << 20), x(1 << 20)}, []string{"2097152"}},
		{"gate", []string{""}, []string{""}},
		{"gate", []string{"fine"}, []string{"fine"}},
		{"gate", []string{"\"#\x20\x22"}, []string{"\"#\x20\x22"}},
		{"gate", []string{"!"}, nil},
		{"gate", []string{"!at first"}, nil},
		{"gate", []string{"with!in"}, nil},
		{"gate", []string{"at last!"}, nil},
		{"gate", []string{x(256)}, []string{x(256)}},
		{"gate", []string{x(257)}, nil},
		{"gate", []string{x(255) + "!"}, nil},
	} {
		outputs := "y"
		if c.action == "half" {
			outputs = "y z"
		}
		line := "task " + outputs + " = " + c.action
		var in []api.File
		for i, data := range c.inputs {
			path := string("abcd"[i])
			line += " " + path
			in = append(in, api.File{Path: path, Data: data})
		}
		want, state := slices.Clone(in), api.Failed
		for i, data := range c.want {
			want, state = append(want, api.File{Path: string("yz"[i]), Data: data}), api.Done
		}
		r := mustBuild(t, line, in, "", with(2))
		if !slices.Equal(r.Files, want) || !slices.Equal(r.State, []int{state}) {
			t.Errorf("P10: %q of %.80q: %v, %.300q, want %.300q", line, c.inputs, r.State, r.Files, want)
		}
	}
}

// What a task makes is made of what those ahead of it made, not of what lay there at first.
func TestMadeOfWhatWasMade(t *testing.T) {
	m := text("task d = cat c b", "task c = rev b", "task b = cat a a")
	r := mustBuild(t, m, list("a", "12", "b", "old", "c", "old", "d", "old"), "", with(8))
	if !slices.Equal(r.Files, list("a", "12", "b", "1212", "c", "2121", "d", "21211212")) || r.Ops != 15 {
		t.Errorf("P10: %s", show(r))
	}
}

func TestFilesInOrder(t *testing.T) {
	m := text("task _ = cat", "task a.b 0 = half zz", "task . = cat", "task z = cat", "task a_b = cat", "task aab = cat")
	r := mustBuild(t, m, list("zz", "12", "a", "", "9", "", "zzz", "", "a.a", "", "aa", ""), "", with(3))
	var paths []string
	for _, f := range r.Files {
		paths = append(paths, f.Path)
	}
	if want := strings.Fields(". 0 9 _ a a.a a.b a_b aa aab z zz zzz"); !slices.Equal(paths, want) {
		t.Errorf("P11: %q, want %q", paths, want)
	}
}
