// Package build runs the tasks of a manifest, tick by tick.
package build

import (
	"sync"

	"mill/api"
	"mill/disk"
	"mill/plan"
	"mill/record"
	"mill/work"
)

// Run builds (P8 to P12).
func Run(manifest string, files []api.File, log string, o api.Options) (api.Report, api.Errno) {
	p, _, e := plan.Read(manifest)
	if e != api.OK {
		return api.Report{}, e
	}
	if e := refuse(p, files, o); e != api.OK {
		return api.Report{}, e
	}
	return runTogether(p, files, log, o), api.OK
}

// runTogether has workers and a journal beside it as long as the build runs; behind it none of them is left, also where power was lost.
func runTogether(p plan.Plan, files []api.File, log string, o api.Options) api.Report {
	var group sync.WaitGroup
	b := newBuild(p, files, log, o, &group)
	b.run(log)
	b.crew.End()
	outcome := b.journal.End()
	group.Wait()
	return b.report(outcome)
}

// build: what is so at a tick. busy has for each worker whether it runs a task.
type build struct {
	options    api.Options
	tasks      []task
	pools      []plan.Pool
	store      store
	remembered map[api.Digest]api.Record
	busy       []bool
	crew       work.Crew
	journal    disk.Journal
	tick       int
	events     []api.Event
}

func newBuild(p plan.Plan, files []api.File, log string, o api.Options, group *sync.WaitGroup) *build {
	return &build{
		options: o,
		tasks:   newTasks(p),
		pools:   p.Pools,
		store:   newStore(files),
		busy:    make([]bool, o.Workers),
		crew:    work.Start(o.Workers, group),
		journal: disk.Start(files, log, disk.Loss{Ahead: o.Crash, Keeps: o.Keeps}, group),
	}
}

// run goes on until the build has ended or power is lost.
func (b *build) run(log string) {
	if b.readLog(log) {
		b.runTicks()
	}
}

// readLog remembers what the log tells, and leaves no torn bytes that a record would be laid behind. It tells false if power was lost.
func (b *build) readLog(log string) bool {
	records, whole := record.Read(log)
	b.remembered = record.Latest(records)
	return whole == len(log) || b.journal.Mend(log[:whole])
}

// runTicks goes from each tick at which a task ends to the next one.
func (b *build) runTicks() {
	for more := true; more; {
		if !b.endTasks() {
			return
		}
		b.settleTasks()
		if !b.isStopped() {
			b.beginTasks()
		}
		b.tick, more = b.nextTick()
	}
}

// nextTick is the next one at which a task ends. Where none runs, it stays as it is.
func (b *build) nextTick() (tick int, more bool) {
	tick = b.tick
	for _, t := range b.tasks {
		if t.phase == running && (!more || t.ends < tick) {
			tick, more = t.ends, true
		}
	}
	return tick, more
}

// isStopped tells whether nothing is begun any more.
func (b *build) isStopped() bool {
	o := b.options
	cancelled := o.Cancel != api.Never && b.tick >= o.Cancel
	spent := o.Budget != 0 && b.failures() >= o.Budget
	return cancelled || spent
}

func (b *build) failures() int {
	n := 0
	for _, t := range b.tasks {
		if t.state == api.Failed {
			n++
		}
	}
	return n
}

// report tells what came of the build. Where power was lost nobody knows but what the disk still has.
func (b *build) report(o disk.Outcome) api.Report {
	if o.Lost {
		return api.Report{Files: o.Files, Log: o.Log, Ops: o.Operations}
	}
	states := make([]int, len(b.tasks))
	for i, t := range b.tasks {
		states[i] = t.state
	}
	return api.Report{
		Files:  o.Files,
		Log:    o.Log,
		State:  states,
		Events: b.events,
		Ticks:  b.tick,
		Ops:    o.Operations,
	}
}
