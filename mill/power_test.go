package mill_test

import (
	"math"
	"runtime"
	"slices"
	"strings"
	"testing"
	"testing/synctest"

	"mill/api"
	"mill/mill"
)

// crash has so many workers; power is lost ahead of an operation.
func crash(workers, ahead int, keeps ...int) api.Options {
	o := with(workers)
	o.Crash, o.Keeps = ahead, keeps
	return o
}

// mustLose is a build in which power is lost: what the report then may not have is not there.
func mustLose(t *testing.T, manifest string, files []api.File, log string, o api.Options) ([]api.File, string) {
	t.Helper()
	r := mustBuild(t, manifest, files, log, o)
	if len(r.State) != 0 || len(r.Events) != 0 || r.Ticks != 0 || r.Ops != o.Crash {
		t.Fatalf("P12: %q, %+v: %s", manifest, o, show(r))
	}
	return r.Files, r.Log
}

// mustNotLose is a build that does not come to the operation: it is as if there were none.
func mustNotLose(t *testing.T, manifest string, files []api.File, log string, o api.Options) {
	t.Helper()
	r := mustBuild(t, manifest, files, log, o)
	o.Crash, o.Keeps = api.Never, nil
	if want := mustBuild(t, manifest, files, log, o); !sameReport(r, want) {
		t.Errorf("P12: %q, which does not come to it: %s, want %s", manifest, show(r), show(want))
	}
}

func TestPowerExamples(t *testing.T) {
	const m = "task b = rev a"
	in, both := list("a", "xyz"), list("a", "xyz", "b", "zyx")
	record := made(mill.Sum("rev\n3:xyz"), mill.Sum("zyx"))
	for workers := 1; workers <= 8; workers++ {
		for _, c := range []struct {
			options api.Options
			files   []api.File
			log     string
		}{
			{crash(workers, 1, 2), in, ""},
			{crash(workers, 4, 0, 0, 10), both, record[:10]},
			{crash(workers, 0), in, ""},
			{crash(workers, 0, 10), in, ""},
			{crash(workers, 1, 3, 3, 3), in, ""},
			{crash(workers, 2, 10), in, ""},
			{crash(workers, 3, 10), both, ""},
			{crash(workers, 4), both, ""},
			{crash(workers, 4, 10, 10, 0), both, ""},
			{crash(workers, 4, 0, 0, 37), both, record[:37]},
			{crash(workers, 4, 0, 0, 38), both, record},
			{crash(workers, 4, 0, 0, 39), both, record},
		} {
			if files, log := mustLose(t, m, in, "", c.options); !slices.Equal(files, c.files) || log != c.log {
				t.Errorf("P12: %+v: %q, log %x, want %q, %x", c.options, files, log, c.files, c.log)
			}
		}
		for _, ahead := range []int{5, 6, 1000, math.MaxInt} {
			mustNotLose(t, m, in, "", crash(workers, ahead, 0, 0, 10))
		}
	}
}

// twoTasks: of its 13 operations 2, 5 and 10 are renames, 6 and 11 lay records behind the log.
const twoTasks = "task b c = half a | cost 2\ntask d = rev c"

func TestPowerIsLostAnywhere(t *testing.T) {
	in := list("a", "12345")
	all := list("a", "12345", "b", "12", "c", "345", "d", "543")
	first := made(mill.Sum("half\n5:12345"), mill.Sum("12"), mill.Sum("345"))
	second := made(mill.Sum("rev\n3:345"), mill.Sum("543"))
	log := first + second
	if r := mustBuild(t, twoTasks, in, "", with(1)); r.Ops != 13 || r.Log != log || !slices.Equal(r.Files, all) {
		t.Fatalf("P11: %s", show(r))
	}
	for ahead, want := range []struct{ files, safe, rest int }{
		{1, 0, 0}, {1, 0, 0}, {1, 0, 0},
		{2, 0, 0}, {2, 0, 0}, {2, 0, 0},
		{3, 0, 0}, {3, 0, 54},
		{3, 54, 0}, {3, 54, 0}, {3, 54, 0},
		{4, 54, 0}, {4, 54, 38},
	} {
		for _, most := range []int{0, 1, 20, 37, 38, 53, 54, 55, math.MaxInt} {
			files, left := mustLose(t, twoTasks, in, "", crash(2, ahead, most))
			if kept := log[:want.safe+min(want.rest, most)]; !slices.Equal(files, all[:want.files]) || left != kept {
				t.Errorf("P12: ahead of %d, %d more bytes are kept: %q, log %x, want %x", ahead, most, files, left, kept)
			}
		}
		if files, left := mustLose(t, twoTasks, in, "", crash(2, ahead)); !slices.Equal(files, all[:want.files]) || left != log[:want.safe] {
			t.Errorf("P12: ahead of %d, no more bytes are kept: %q, log %x", ahead, files, left)
		}
	}
	mustNotLose(t, twoTasks, in, "", crash(2, 13, 5))
	mustNotLose(t, twoTasks, in, "", crash(2, 14, 5))
}

// The log comes behind all files of the store: that is its number. How many bytes of it are kept stands there, or at the place that comes there when the list begins anew.
func TestNumberOfTheLog(t *testing.T) {
	files := list("a", "xyz", "z", "")
	for number := 3; number <= 8; number++ {
		for length := range 20 {
			keeps := make([]int, length)
			want := 0
			for i := range keeps {
				keeps[i] = 30 - i
			}
			if length > 0 {
				want = keeps[number%length]
			}
			left, log := mustLose(t, "task b = rev a", files, "", crash(1, 4, keeps...))
			if len(log) != want || len(left) != number {
				t.Errorf("P12: the log is file %d, keeps %v: %d bytes, %q", number, keeps, len(log), left)
			}
		}
		files = append(files, api.File{Path: strings.Repeat("m", number)})
	}
}

// Where a log is torn three operations come first; the old one stays until the last of them.
func TestPowerIsLostOverATornLog(t *testing.T) {
	in, both := list("a", "xyz"), list("a", "xyz", "b", "zyx")
	record := made(mill.Sum("rev\n3:xyz"), mill.Sum("zyx"))
	other := made(mill.Sum("other"), mill.Sum(""))
	for _, whole := range []string{"", other, other + other} {
		for _, torn := range []string{"R", "torn", record[:37], "\x00" + record} {
			for _, most := range []int{0, 1, 10, 38, 99, math.MaxInt} {
				for ahead, want := range []struct {
					files     []api.File
					log, rest string
				}{
					{in, whole + torn, ""}, {in, whole + torn, ""}, {in, whole + torn, ""},
					{in, whole, ""}, {in, whole, ""}, {in, whole, ""},
					{both, whole, ""}, {both, whole, record},
				} {
					files, log := mustLose(t, "task b = rev a", in, whole+torn, crash(3, ahead, most))
					if kept := want.log + want.rest[:min(most, len(want.rest))]; !slices.Equal(files, want.files) || log != kept {
						t.Errorf("P12: ahead of %d, log %x: %q, %x, want %q, %x", ahead, whole+torn, files, log, want.files, kept)
					}
				}
				mustNotLose(t, "task b = rev a", in, whole+torn, crash(3, 8, most))
				for ahead := range 3 {
					if files, log := mustLose(t, "", in, whole+torn, crash(1, ahead, most)); !slices.Equal(files, in) || log != whole+torn {
						t.Errorf("P12: nothing to build, ahead of %d, log %x: %q, %x", ahead, whole+torn, files, log)
					}
				}
				mustNotLose(t, "", in, whole+torn, crash(1, 3, most))
			}
		}
	}
}

// A log that is whole takes no operation; what is behind it is not safe yet.
func TestPowerIsLostBehindAWholeLog(t *testing.T) {
	in := list("a", "xyz")
	record := made(mill.Sum("rev\n3:xyz"), mill.Sum("zyx"))
	whole := made(mill.Sum("other"), mill.Sum("")) + made(mill.Sum("another"), mill.Sum(""), mill.Sum(""))
	for _, most := range []int{0, 5, 38, 92, 99} {
		if _, log := mustLose(t, "task b = rev a", in, whole, crash(1, 4, most)); log != whole+record[:min(most, 38)] {
			t.Errorf("P12: %d more bytes are kept: %x", most, log)
		}
		if _, log := mustLose(t, "task b = rev a", in, whole, crash(1, 3, most)); log != whole {
			t.Errorf("P12: the log has nothing more yet: %x", log)
		}
	}
}

// Builds that do not come to the operation, though they have tasks.
func TestPowerIsNotLost(t *testing.T) {
	in := list("a", "xyz", "n", "no!")
	first := mustBuild(t, threeTasks, in, "", with(1))
	cancelled := crash(1, 5)
	cancelled.Cancel = 3
	spent := crash(1, 0)
	spent.Budget = 1
	mustNotLose(t, "", in, "", crash(1, 0, 1))
	mustNotLose(t, "task b = gate n", in, "", crash(1, 0, 1))
	mustNotLose(t, text("task b = gate n", "task c = rev b"), in, "", crash(8, 0))
	mustNotLose(t, text("task b = gate n | cost 2", "task c = rev a"), in, "", spent)
	mustNotLose(t, threeTasks, first.Files, first.Log, crash(1, 0, 1))
	mustNotLose(t, threeTasks, in, "", cancelled)
	cancelled.Crash = 4
	if files, log := mustLose(t, threeTasks, in, "", cancelled); log != "" || !slices.Equal(files, list("a", "xyz", "d", "xyz", "n", "no!")) {
		t.Errorf("P12: with Cancel: %q, %x", files, log)
	}
	never := with(3)
	never.Keeps = []int{0, 1}
	if r := mustBuild(t, threeTasks, in, "", never); !sameReport(r, mustBuild(t, threeTasks, in, "", with(3))) {
		t.Errorf("P12: without Crash Keeps says nothing: %s", show(r))
	}
}

// What is made again stays the old one until the new one has its name; a file in its place is never a part of both.
func TestOldFileStays(t *testing.T) {
	in := list("a", "12345", "b", "old", "c", "older", "d", "oldest")
	for ahead := range 13 {
		want := slices.Clone(in)
		for i, renamed := range []int{2, 5, 10} {
			if ahead > renamed {
				want[1+i].Data = []string{"12", "345", "543"}[i]
			}
		}
		for _, most := range []int{0, 1, math.MaxInt} {
			if files, _ := mustLose(t, twoTasks, in, "", crash(1, ahead, most)); !slices.Equal(files, want) {
				t.Errorf("P12: ahead of %d: %q, want %q", ahead, files, want)
			}
		}
	}
}

// The tasks that end at one tick are laid down by their numbers; the power is lost over the second one, while others still run.
func TestPowerIsLostWhileOthersRun(t *testing.T) {
	m := text("task b = rev a", "task c = cat a", "task d = cat a | cost 9", "task e = count a | cost 9", "task f = gate n")
	in := list("a", "xyz", "n", "no!")
	record := made(mill.Sum("rev\n3:xyz"), mill.Sum("zyx"))
	for ahead := range 5 {
		files, log := mustLose(t, m, in, "", crash(8, 5+ahead))
		want := list("a", "xyz", "b", "zyx", "n", "no!")
		if ahead > 2 {
			want = list("a", "xyz", "b", "zyx", "c", "xyz", "n", "no!")
		}
		if !slices.Equal(files, want) || log != record {
			t.Errorf("P12: ahead of %d: %q, log %x", 5+ahead, files, log)
		}
	}
}

// outlasts: P16 of what is left of a build when power is lost in it. whole is what comes of it when power is not lost.
func outlasts(t *testing.T, p project, whole, left api.Report) {
	t.Helper()
	all, _, _ := referenceRead(p.manifest)
	b := refBuild{reference: all}
	for _, f := range left.Files {
		b.put(f.Path, f.Data)
		if !slices.Contains(whole.Files, f) {
			t.Fatalf("P16: %v: %q is no whole file", p, f)
		}
	}
	lie := map[string]int{} // how many tasks have a record and its outputs
	for _, task := range all.tasks {
		_, print := b.inputs(task)
		var outs []api.Digest
		for _, path := range task.outputs {
			if data, there := b.get(path); there {
				outs = append(outs, mill.Sum(data))
			}
		}
		if len(outs) == len(task.outputs) {
			lie[made(print, outs...)]++
		}
	}
	records, _ := mill.Recover(left.Log)
	for _, r := range records {
		if lie[made(r.Print, r.Outs...)]--; lie[made(r.Print, r.Outs...)] < 0 {
			t.Fatalf("P16: %v: the outputs of record %x are not there: %s", p, r, show(left))
		}
	}
}

// goOn builds with what was left, whatever the workers; it ends with the files of a build that was never broken off.
func goOn(t *testing.T, p project, whole, left api.Report, workers ...int) {
	t.Helper()
	for _, w := range workers {
		again := project{p.manifest, left.Files, left.Log, with(w)}
		r, e := compareBuild(t, again)
		if e != api.OK || !slices.Equal(r.Files, whole.Files) {
			t.Fatalf("P16: %v, then %d workers: error %d, %s, want %q", p, w, e, show(r), whole.Files)
		}
	}
}

const manyTasks = `pool p 1
task b c = half a | cost 2
task d = rev b | pool p
task e = gate c | cost 4 pool p
task f = cat d e
task g = gate n
task h = cat g
task i = count a b | jobs 3
task j = cat a
task k = cat a | cost 3
task l = cat
task m o = half l`

func TestBuiltAgainBehindALoss(t *testing.T) {
	in := list("a", "12345", "n", "!")
	for _, workers := range []int{1, 2, 3, 8} {
		whole := mustBuild(t, manyTasks, in, "", with(workers))
		for ahead := range whole.Ops + 2 {
			for _, keeps := range [][]int{nil, {0}, {1}, {37}, {38}, {math.MaxInt}, {20, 0, 3, 7, 37, 50}} {
				p := project{manyTasks, in, "", crash(workers, ahead, keeps...)}
				left, _ := compareBuild(t, p)
				outlasts(t, p, whole, left)
				goOn(t, p, whole, left, 1+(ahead+workers)%8)
			}
		}
	}
	whole := mustBuild(t, twoTasks, in, "", with(1))
	for ahead := range whole.Ops + 2 {
		p := project{twoTasks, in, "", crash(3, ahead, 20)}
		left, _ := compareBuild(t, p)
		goOn(t, p, whole, left, 1, 2, 3, 4, 5, 6, 7, 8)
	}
}

// fresh is a project without a log, none of whose files is an output, without Budget and Cancel.
func (k maker) fresh() project {
	p := project{options: with(1 + k.IntN(8))}
	p.manifest, _ = k.rightManifest()
	for _, path := range []string{"s0", "s1", "s2", "s3"} {
		p.files = append(p.files, api.File{Path: path, Data: k.data()})
	}
	p.options.Tokens = 1 + k.IntN(9)
	return p
}

func TestManyBuiltAgainBehindALoss(t *testing.T) {
	k := newMaker()
	torn := 0
	for range 30 {
		p := k.fresh()
		whole, _ := compareBuild(t, p)
		for ahead := range whole.Ops + 2 {
			p.options.Crash, p.options.Keeps = ahead, k.keeps()
			left, _ := compareBuild(t, p)
			if _, bytes := mill.Recover(left.Log); bytes < len(left.Log) {
				torn++
			}
			outlasts(t, p, whole, left)
			goOn(t, p, whole, left, 1+k.IntN(8))
		}
	}
	if torn < 25 {
		t.Errorf("torn logs are seldom here: %d", torn)
	}
}

// Power is lost again and again, also over what a loss left behind: what is left is whole each time, and so is the end.
func TestPowerIsLostAgainAndAgain(t *testing.T) {
	k := newMaker()
	for range 150 {
		p := k.fresh()
		whole, _ := compareBuild(t, p)
		for range 12 {
			p.options = crash(1+k.IntN(8), k.IntN(20), k.keeps()...)
			left, _ := compareBuild(t, p)
			outlasts(t, p, whole, left)
			p.files, p.log = left.Files, left.Log
		}
		p.options = with(1 + k.IntN(8))
		if r, _ := compareBuild(t, p); !slices.Equal(r.Files, whole.Files) {
			t.Fatalf("P16: %v: %s, want %q", p, show(r), whole.Files)
		}
	}
}

// With as many files as may be: those that the build makes come on top of them.
func TestPowerIsLostAmongManyFiles(t *testing.T) {
	in := filled(64, list("a", "xyz"))
	lines := numbered(24, "task t%d = cat a")
	keeps := make([]int, 100)
	for i := range keeps {
		keeps[i] = 100 - i
	}
	record := made(mill.Sum("cat\n3:xyz"), mill.Sum("xyz"))
	for n := range 24 {
		files, log := mustLose(t, text(lines...), in, "", crash(8, 5*n+4, keeps...))
		want := strings.Repeat(record, n) + record[:min(38, max(0, 100-len(files)))]
		if len(files) != 64+n+1 || log != want || !slices.IsSortedFunc(files, func(a, b api.File) int { return strings.Compare(a.Path, b.Path) }) {
			t.Errorf("P12: behind %d tasks: %d files, %d bytes of the log, want %d", n, len(files), len(log), len(want))
		}
	}
}

// Goroutines that wait for ever do not let a bubble end: neither workers whose answers nobody takes, nor the journal.
func TestAllGoroutinesEndWithoutPower(t *testing.T) {
	m := text(append(numbered(9, "task t%d = cat a"), numbered(9, "task u%d = rev a | cost 5")...)...)
	for _, log := range []string{"", "torn"} {
		for workers := 1; workers <= 8; workers++ {
			for ahead := range 100 {
				synctest.Test(t, func(t *testing.T) { mill.Build(m, list("a", "xyz"), log, crash(workers, ahead)) })
			}
		}
	}
}

// With one processor, as in TestGoroutinesEndAheadOfTheAnswer.
func TestGoroutinesEndAheadOfTheAnswerWithoutPower(t *testing.T) {
	defer runtime.GOMAXPROCS(runtime.GOMAXPROCS(1))
	m := text(append(numbered(9, "task t%d = cat a"), numbered(9, "task u%d = rev a | cost 5")...)...)
	late := 0
	for n := range 300 {
		before := runtime.NumGoroutine()
		mill.Build(m, list("a", "xyz"), "torn", crash(8, n%90))
		if runtime.NumGoroutine() > before {
			late++
		}
	}
	if late > 30 {
		t.Errorf("P1: behind %d of 300 builds goroutines were left", late)
	}
}

// What is left is new memory, also where no operation was done.
func TestWhatIsLeftIsNewMemory(t *testing.T) {
	in := list("a", "xyz", "c", "123")
	for ahead := range 5 {
		want := mustBuild(t, "task b = rev a", in, "", crash(2, ahead, 9))
		one := mustBuild(t, "task b = rev a", in, "", crash(2, ahead, 9))
		two := mustBuild(t, "task b = rev a", in, "", crash(2, ahead, 9))
		spoilReport(&one)
		if !sameReport(two, want) || !slices.Equal(in, list("a", "xyz", "c", "123")) {
			t.Errorf("P2: ahead of %d: %s, want %s, and the files that were handed in are %q", ahead, show(two), show(want), in)
		}
	}
}
