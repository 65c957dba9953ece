package mill_test

import (
	"fmt"
	"math"
	"regexp"
	"runtime"
	"slices"
	"strings"
	"sync"
	"testing"
	"testing/synctest"

	"mill/api"
	"mill/mill"
)

// project: all that a build is handed.
type project struct {
	manifest string
	files    []api.File
	log      string
	options  api.Options
}

func (p project) String() string {
	return fmt.Sprintf("manifest %q, files %.900q, log %x, options %+v", p.manifest, p.files, p.log, p.options)
}

func (p project) build() (api.Report, api.Errno) {
	return mill.Build(p.manifest, p.files, p.log, p.options)
}

// compareBuild holds the program against the second reading.
func compareBuild(t *testing.T, p project) (api.Report, api.Errno) {
	t.Helper()
	want, errno := referenceBuild(p.manifest, p.files, p.log, p.options)
	got, e := p.build()
	if e != errno {
		t.Fatalf("P8: %v:\nerror %d, want %d", p, e, errno)
	}
	if !sameReport(got, want) {
		t.Fatalf("P11, P12: %v:\n%s, want\n%s", p, show(got), show(want))
	}
	return got, e
}

// line makes a task of what others ahead of it make, and of the sources.
func (k maker) line(number int, paths []string) (line string, outputs []string) {
	outputs = []string{fmt.Sprint("t", number)}
	action, inputs := k.pick("cat", "cat", "rev", "half", "count", "gate"), 1
	switch action {
	case "half":
		outputs = append(outputs, fmt.Sprint("u", number))
	case "cat":
		inputs = k.IntN(5)
	case "count":
		inputs = 1 + k.IntN(4)
	}
	line = "task " + strings.Join(outputs, " ") + " = " + action
	for range inputs {
		// those made last come more often, so that there are long ways
		line += " " + paths[max(k.IntN(len(paths)), k.IntN(len(paths)))]
	}
	return line + k.options(), outputs
}

// rightManifest has up to 24 tasks, in any order; it is right.
func (k maker) rightManifest() (manifest string, outputs []string) {
	var lines []string
	paths := []string{"s0", "s1", "s2", "s3"}
	for i := range k.IntN(25) {
		line, made := k.line(i, paths)
		lines = append(lines, line)
		outputs = append(outputs, made...)
		paths = append(paths, made...)
	}
	if k.IntN(2) == 0 {
		k.Shuffle(len(lines), func(i, j int) { lines[i], lines[j] = lines[j], lines[i] })
	}
	return after([]string{fmt.Sprint("pool p0 ", 1+k.IntN(3))}, lines...), outputs
}

func (k maker) data() string {
	return k.pick("", "x", "no!", "some more", "12345", strings.Repeat("x", k.IntN(300)), strings.Repeat("ab", 128), strings.Repeat("y", 511+k.IntN(3)))
}

func (k maker) anyOptions() api.Options {
	o := with(1 + k.IntN(8))
	o.Tokens = 1 + k.IntN(9)
	if k.IntN(3) == 0 {
		o.Budget = 1 + k.IntN(4)
	}
	if k.IntN(3) == 0 {
		o.Cancel = k.IntN(25)
	}
	if k.IntN(3) == 0 {
		o.Crash = k.IntN(20 + k.IntN(100))
	}
	o.Keeps = k.keeps()
	return o
}

// keeps are now and then none, or more than there are files.
func (k maker) keeps() []int {
	list := make([]int, max(0, k.IntN(12)-3)*(1+k.IntN(8)))
	for i := range list {
		list[i] = []int{0, 1, 38, 54, math.MaxInt, k.IntN(60), k.IntN(60)}[k.IntN(7)]
	}
	return list
}

// isLost tells whether power was lost in a build that has something to do.
func isLost(p project, r api.Report) bool {
	return p.options.Crash != api.Never && len(r.State) == 0 && p.manifest != ""
}

// project makes one of what was built before, too: with other files, with part of the log, or with none.
func (k maker) project() project {
	p := project{options: k.anyOptions()}
	var outputs []string
	p.manifest, outputs = k.rightManifest()
	for i := range 4 {
		p.files = append(p.files, api.File{Path: fmt.Sprint("s", i), Data: k.data()})
	}
	for _, path := range outputs {
		if k.IntN(6) == 0 {
			p.files = append(p.files, api.File{Path: path, Data: k.data()})
		}
	}
	if k.IntN(3) > 0 {
		p = k.behind(p)
	}
	if k.IntN(3) == 0 {
		p.log = k.damage(p.log)
	}
	k.Shuffle(len(p.files), func(i, j int) { p.files[i], p.files[j] = p.files[j], p.files[i] })
	return p
}

// behind is a project behind a build of it, some files of which were changed or lost since.
func (k maker) behind(p project) project {
	r, _ := referenceBuild(p.manifest, p.files, p.log, k.anyOptions())
	p.files, p.log = nil, r.Log+k.log(3)
	for _, f := range r.Files {
		if k.IntN(12) == 0 {
			f.Data = k.data()
		}
		if f.Path[0] == 's' || k.IntN(15) > 0 {
			p.files = append(p.files, f)
		}
	}
	return p
}

func TestManyBuilds(t *testing.T) {
	k := newMaker()
	var states [5]int
	lost, torn := 0, 0
	for range 2000 {
		p := k.project()
		r, e := compareBuild(t, p)
		if e != api.OK {
			t.Fatalf("this test makes what may not be built: %v: %d", p, e)
		}
		if isLost(p, r) {
			lost++
			if _, whole := mill.Recover(r.Log); whole < len(r.Log) {
				torn++
			}
			continue
		}
		followRules(t, p, r)
		for _, s := range r.State {
			states[s]++
		}
	}
	if slices.Min(states[:]) < 200 || lost < 200 || torn < 15 {
		t.Errorf("some are seldom here: %v, %d builds without power, %d torn logs", states, lost, torn)
	}
}

// What may not be built is refused, each time with the right error.
func TestManyWrongBuilds(t *testing.T) {
	k := newMaker()
	seen := map[api.Errno]int{}
	for range 1200 {
		p := k.project()
		if k.IntN(3) == 0 {
			p.manifest = k.spoil(p.manifest)
		}
		if k.IntN(3) == 0 {
			p.files = append(p.files, api.File{Path: k.pick("s0", "s9", "t1", "~", "A", "", "ok")})
		}
		if k.IntN(3) == 0 {
			p.files = p.files[k.IntN(2):]
		}
		if k.IntN(3) == 0 {
			o := &p.options
			*[]*int{&o.Workers, &o.Tokens, &o.Budget, &o.Cancel, &o.Crash}[k.IntN(5)] = []int{-2, -1, 0, 9, 10, math.MaxInt}[k.IntN(6)]
		}
		if k.IntN(12) == 0 {
			p.options.Keeps = append(p.options.Keeps, -1-k.IntN(2)*(math.MaxInt-3))
		}
		_, e := compareBuild(t, p)
		seen[e]++
	}
	for _, e := range []api.Errno{api.OK, api.ErrLine, api.ErrFiles, api.ErrInput, api.ErrOption} {
		if seen[e] < 20 {
			t.Errorf("error %d is seldom here: %v", e, seen)
		}
	}
}

// rules: what the events of a build have told so far.
type rules struct {
	*reference
	waits         relation
	options       api.Options
	stands        []int
	workers       map[int]int // who runs which task
	begun         map[int]int // at which tick
	failed, ticks int
}

// followRules goes over the events: P14 holds of them.
func followRules(t *testing.T, p project, r api.Report) {
	t.Helper()
	all, _, _ := referenceRead(p.manifest)
	now := &rules{reference: all, waits: all.waits(), options: p.options, stands: make([]int, len(all.tasks)), workers: map[int]int{}, begun: map[int]int{}}
	for _, e := range r.Events {
		if wrong := now.take(e); wrong != "" {
			t.Fatalf("P14: %v:\n%s:\n%+v %s", p, story(r.Events), e, wrong)
		}
	}
	if !slices.Equal(now.stands, r.State) || len(now.workers) > 0 {
		t.Fatalf("P11: %v:\n%s, but in the end %v", p, story(r.Events), r.State)
	}
}

// take tells what is wrong with the next event.
func (r *rules) take(e api.Event) string {
	late := e.Tick < r.ticks
	r.ticks = e.Tick
	switch {
	case late:
		return "comes too late"
	case r.stands[e.Task] != api.Left:
		return "stood already"
	case e.Kind == api.Started:
		return r.start(e)
	case e.Kind == api.KeptIt:
		r.stands[e.Task] = api.Kept
	case e.Kind == api.SkippedIt:
		r.stands[e.Task] = api.Skipped
	default:
		return r.end(e)
	}
	return ""
}

func (r *rules) start(e api.Event) string {
	_, again := r.begun[e.Task]
	_, busy := r.workers[e.Worker]
	r.begun[e.Task], r.workers[e.Worker] = e.Tick, e.Task
	tokens, inPool, task := 0, 0, r.tasks[e.Task]
	for _, number := range r.workers {
		tokens += min(r.tasks[number].jobs, r.options.Tokens)
		if r.tasks[number].pool == task.pool {
			inPool++
		}
	}
	for other, state := range r.stands {
		if r.waits[e.Task][other] && state != api.Done && state != api.Kept {
			return "begins ahead of what it waits for"
		}
	}
	switch o := r.options; {
	case again:
		return "begins twice"
	case busy || e.Worker < 0 || e.Worker >= o.Workers:
		return "has no free worker"
	case tokens > o.Tokens:
		return "has no tokens"
	case task.pool != "" && inPool > r.pools[task.pool]:
		return "has no room in its pool"
	case o.Cancel != api.Never && e.Tick >= o.Cancel || o.Budget > 0 && r.failed >= o.Budget:
		return "begins though nothing may"
	}
	return ""
}

func (r *rules) end(e api.Event) string {
	number, busy := r.workers[e.Worker]
	delete(r.workers, e.Worker)
	if r.stands[e.Task] = api.Done; e.Kind == api.Broke {
		r.stands[e.Task] = api.Failed
		r.failed++
	}
	switch {
	case !busy || number != e.Task:
		return "ends elsewhere"
	case e.Tick != r.begun[e.Task]+r.tasks[e.Task].cost:
		return "ends at a wrong tick"
	}
	return ""
}

// inAnyOrder goes over the tasks in one of the orders in which none comes ahead of what it waits for.
func (k maker) inAnyOrder(p project) ([]api.File, []int) {
	all, _, _ := referenceRead(p.manifest)
	b := refBuild{reference: all, waits: all.waits()}
	for _, f := range p.files {
		b.put(f.Path, f.Data)
	}
	b.records, _ = referenceRecover(p.log)
	b.out.State = make([]int, len(all.tasks))
	for slices.Contains(b.out.State, api.Left) {
		if number := k.IntN(len(all.tasks)); b.out.State[number] == api.Left {
			b.out.State[number] = b.standAlone(number)
		}
	}
	return b.out.Files, b.out.State
}

// standAlone is how a task stands: Left, if it is not its turn yet.
func (b *refBuild) standAlone(number int) int {
	skipped := false
	for other, state := range b.out.State {
		if b.waits[number][other] {
			if state == api.Left {
				return api.Left
			}
			skipped = skipped || state == api.Failed || state == api.Skipped
		}
	}
	t := b.tasks[number]
	if skipped {
		return api.Skipped
	}
	if b.upToDate(t) {
		return api.Kept
	}
	in, _ := b.inputs(t)
	made := referenceMake(t.action, in)
	if made == nil {
		return api.Failed
	}
	for i, path := range t.outputs {
		b.put(path, made[i])
	}
	return api.Done
}

var afterBar = regexp.MustCompile(` \|[^\n]*`)

// Files and State hang neither on Workers and Tokens, nor on costs, jobs and pools.
func TestSameHoweverManyWorkers(t *testing.T) {
	k := newMaker()
	for range 300 {
		p := k.project()
		files, state := k.inAnyOrder(p)
		plain := afterBar.ReplaceAllString(p.manifest, "")
		other := strings.Split(plain, "\n")
		for i := range other[1:] {
			other[1+i] += k.options()
		}
		for workers := 1; workers <= 8; workers++ {
			o := with(workers)
			o.Tokens = 1 + k.IntN(9)
			for _, m := range []string{p.manifest, plain, text(other...)} {
				r := mustBuild(t, m, p.files, p.log, o)
				if !slices.Equal(r.Files, files) || !slices.Equal(r.State, state) {
					t.Fatalf("P13: %v with %d workers, %d tokens: %s, want %q, %v", p, workers, o.Tokens, show(r), files, state)
				}
			}
		}
	}
}

// Behind a build that went well there is nothing to do; with part of its log in the end all is the same.
func TestBuiltOnceMore(t *testing.T) {
	k := newMaker()
	for n := 0; n < 150; {
		p := k.project()
		p.log, p.options = "", with(1+k.IntN(8))
		first, _ := p.build()
		if len(first.Files) > 64 || slices.ContainsFunc(first.State, func(s int) bool { return s != api.Done }) {
			continue
		}
		n++
		again := mustBuild(t, p.manifest, first.Files, first.Log, with(1+k.IntN(8)))
		begun := func(e api.Event) bool { return e.Kind != api.KeptIt }
		want := api.Report{Files: first.Files, Log: first.Log, State: slices.Repeat([]int{api.Kept}, len(first.State)), Events: again.Events}
		if !sameReport(again, want) || slices.ContainsFunc(again.Events, begun) {
			t.Fatalf("P15: %v once more: %s, want %s", p, show(again), show(want))
		}
		for range 20 {
			part := first.Log[:k.IntN(len(first.Log)+1)]
			r := mustBuild(t, p.manifest, first.Files, part, with(1+k.IntN(8)))
			if !slices.Equal(r.Files, first.Files) {
				t.Fatalf("P15: %v with %d bytes of the log: %s", p, len(part), show(r))
			}
		}
	}
}

// With a log that is torn at each byte.
func TestBuiltWithEachBeginningOfTheLog(t *testing.T) {
	in := list("a", "12345")
	m := text("task b = rev a | cost 2", "task c d = half b", "task e = cat d a", "task f = count a")
	first := mustBuild(t, m, in, "", with(2))
	for n := range len(first.Log) + 1 {
		for _, files := range [][]api.File{first.Files, in} {
			r := mustBuild(t, m, files, first.Log[:n], with(2))
			records, bytes := mill.Recover(first.Log[:n])
			operations := 0
			if bytes < n {
				operations = 3
			}
			for i, s := range r.State {
				if s == api.Done {
					operations += []int{5, 8, 5, 5}[i]
				}
			}
			kept := 0
			for _, s := range r.State {
				if s == api.Kept {
					kept++
				}
			}
			if len(files) == 1 {
				records = nil // nothing lies there: nothing is kept
			}
			if !slices.Equal(r.Files, first.Files) || !strings.HasPrefix(r.Log, first.Log[:bytes]) || r.Ops != operations || kept != len(records) {
				t.Errorf("P15: with %d bytes of the log: %d operations, %v, %q", n, r.Ops, r.State, r.Files)
			}
			if _, whole := mill.Recover(r.Log); whole != len(r.Log) {
				t.Errorf("P11: with %d bytes of the log: the new one is torn", n)
			}
		}
	}
}

// Whichever goroutine is quicker, the answer is the same; and builds at the same time do not meet.
func TestBuildsAtTheSameTime(t *testing.T) {
	k := newMaker()
	projects := make([]project, 40)
	reports := make([]api.Report, len(projects))
	for i := range projects {
		projects[i] = k.project()
		reports[i], _ = referenceBuild(projects[i].manifest, projects[i].files, projects[i].log, projects[i].options)
	}
	for _, processors := range []int{1, 2, runtime.NumCPU()} {
		before := runtime.GOMAXPROCS(processors)
		var group sync.WaitGroup
		for w := range 8 {
			group.Go(func() {
				for i := range projects {
					at := (i*7 + w*13) % len(projects)
					if r, e := projects[at].build(); e != api.OK || !sameReport(r, reports[at]) {
						t.Errorf("P2: %v: %s, want %s", projects[at], show(r), show(reports[at]))
					}
				}
			})
		}
		group.Wait()
		runtime.GOMAXPROCS(before)
	}
}

// Goroutines that wait for ever do not let a bubble end.
func TestAllGoroutinesEnd(t *testing.T) {
	k := newMaker()
	for range 50 {
		p := k.project()
		synctest.Test(t, func(t *testing.T) { p.build() })
	}
}

// With one processor, whoever has told that it is at its end is gone before Build goes on, but for a switch just there, which is seldom.
func TestGoroutinesEndAheadOfTheAnswer(t *testing.T) {
	defer runtime.GOMAXPROCS(runtime.GOMAXPROCS(1))
	k := newMaker()
	late := 0
	for range 300 {
		p := k.project()
		before := runtime.NumGoroutine()
		p.build()
		if runtime.NumGoroutine() > before {
			late++
		}
	}
	if late > 30 {
		t.Errorf("P1: behind %d of 300 builds goroutines were left", late)
	}
}

// What is handed in is not written into, what is behind its end neither.
func TestBuildWritesIntoNothing(t *testing.T) {
	k := newMaker()
	for range 200 {
		p := k.project()
		room := append(slices.Clone(p.files), list("behind", "1", "the", "2", "end", "3")...)
		keeps := []int{5, 6, 7, 8}
		p.files, p.options.Keeps = room[:len(p.files)], keeps[:2]
		before := slices.Clone(room)
		p.build()
		if !slices.Equal(room, before) || !slices.Equal(keeps, []int{5, 6, 7, 8}) {
			t.Fatalf("P2: %v: %q, %v", p, room, keeps)
		}
	}
}

// All of each list of a report, its spare room too, is written into, and so is what was handed in: no other report shows it.
func TestReportsAreNewMemory(t *testing.T) {
	k := newMaker()
	for range 100 {
		p := k.project()
		p.files = slices.Clip(p.files)
		want, _ := referenceBuild(p.manifest, slices.Clone(p.files), p.log, p.options)
		one, _ := p.build()
		two, _ := p.build()
		given, keeps := p.files, p.options.Keeps
		p.files, p.options.Keeps = slices.Clone(p.files), slices.Clone(keeps)
		for i := range given {
			given[i] = api.File{Path: "gone"}
		}
		for i := range keeps {
			keeps[i] = 77
		}
		if !sameReport(one, want) {
			t.Fatalf("P2: %v: it shows what is written into the files that were handed in: %s", p, show(one))
		}
		spoilReport(&one)
		three, _ := p.build()
		if !sameReport(two, want) || !sameReport(three, want) {
			t.Fatalf("P2: %v: behind what was written into a report: %s, %s, want %s", p, show(two), show(three), show(want))
		}
	}
}

func spoilReport(r *api.Report) {
	files, states, events := r.Files[:cap(r.Files)], r.State[:cap(r.State)], r.Events[:cap(r.Events)]
	for i := range files {
		files[i] = api.File{Path: "spoilt"}
	}
	for i := range states {
		states[i] = 77
	}
	for i := range events {
		events[i] = api.Event{Tick: 77}
	}
}

func TestGreatBuilds(t *testing.T) {
	d := api.Digest{1, 2}
	log := strings.Repeat(made(d, d)+made(d, d, d), 20000)
	data := strings.Repeat("x", 1<<18)
	lines := numbered(24, "task t%d = cat a a a a")
	r := mustBuild(t, text(lines...), list("a", data), log+"torn", with(8))
	if r.Log != log || r.Ops != 3 || !slices.Equal(r.State, slices.Repeat([]int{api.Failed}, 24)) || r.Ticks != 3 {
		t.Errorf("P10: %v, %d operations, %d ticks", r.State, r.Ops, r.Ticks)
	}
	lines = numbered(24, "task t%d = count a a a a | cost 9")
	r = mustBuild(t, text(lines...), filled(64, list("a", data)), log+"torn", with(1))
	if len(r.Log) != len(log)+24*38 || r.Ops != 3+24*5 || r.Ticks != 24*9 || len(r.Files) != 88 {
		t.Errorf("P10: %v, %d operations, %d ticks, %d files", r.State, r.Ops, r.Ticks, len(r.Files))
	}
}

func FuzzBuild(f *testing.F) {
	k := newMaker()
	for range 30 {
		p := k.project()
		files := ""
		for _, file := range p.files {
			files += file.Path + "=" + file.Data + ";"
		}
		keeps := make([]byte, len(p.options.Keeps))
		for i, n := range p.options.Keeps {
			keeps[i] = byte(min(n, 200))
		}
		f.Add(p.manifest, files, p.log, p.options.Workers, p.options.Tokens, p.options.Budget, p.options.Cancel, p.options.Crash, keeps)
	}
	f.Fuzz(func(t *testing.T, manifest, files, log string, workers, tokens, budget, cancel, crash int, keeps []byte) {
		p := project{manifest: manifest, log: log, options: api.Options{Workers: workers, Tokens: tokens, Budget: budget, Cancel: cancel, Crash: crash}}
		for _, n := range keeps {
			p.options.Keeps = append(p.options.Keeps, int(n))
		}
		for line := range strings.SplitSeq(strings.TrimSuffix(files, ";"), ";") {
			path, data, _ := strings.Cut(line, "=")
			p.files = append(p.files, api.File{Path: path, Data: data})
		}
		if r, e := compareBuild(t, p); e == api.OK && !isLost(p, r) {
			followRules(t, p, r)
		}
	})
}
