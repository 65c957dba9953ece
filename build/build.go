// Package build runs the tasks of a manifest, tick by tick.
package build

import (
	"sync"

	"mill/api"
	"mill/disk"
	"mill/plan"
	"mill/record"
	"mill/work"
)

// Run builds, where power is not lost (P8 to P11).
func Run(manifest string, files []api.File, log string, o api.Options) (api.Report, api.Errno) {
	p, _, e := plan.Read(manifest)
	if e != api.OK {
		return api.Report{}, e
	}
	if e := refuse(p, files, o); e != api.OK {
		return api.Report{}, e
	}
	if o.Crash != api.Never {
		// What a loss of power leaves behind is not worked out yet.
		return api.Report{}, api.OK
	}
	return runTogether(p, files, log, o), api.OK
}

// runTogether has workers and a journal beside it as long as the build runs; behind it none of them is left.
func runTogether(p plan.Plan, files []api.File, log string, o api.Options) api.Report {
	var group sync.WaitGroup
	b := &build{
		options: o,
		tasks:   newTasks(p),
		pools:   p.Pools,
		store:   newStore(files),
		busy:    make([]bool, o.Workers),
		crew:    work.Start(o.Workers, &group),
		journal: disk.Start(files, log, &group),
	}
	b.readLog(log)
	b.runTicks()
	b.crew.End()
	outcome := b.journal.End()
	group.Wait()
	return b.report(outcome)
}

// build: what is so at a tick. busy has for each worker whether it runs a task.
type build struct {
	options    api.Options
	tasks      []task
	pools      []plan.Pool
	store      store
	remembered map[api.Digest]api.Record
	busy       []bool
	crew       work.Crew
	journal    disk.Journal
	tick       int
	events     []api.Event
}

// readLog remembers what the log tells, and leaves no torn bytes that a record would be laid behind.
func (b *build) readLog(log string) {
	records, whole := record.Read(log)
	b.remembered = record.Latest(records)
	if whole < len(log) {
		b.journal.Mend(log[:whole])
	}
}

// runTicks goes from each tick at which a task ends to the next one.
func (b *build) runTicks() {
	for more := true; more; {
		b.endTasks()
		b.settleTasks()
		if !b.isStopped() {
			b.beginTasks()
		}
		b.tick, more = b.nextTick()
	}
}

// nextTick is the next one at which a task ends. Where none runs, it stays as it is.
func (b *build) nextTick() (tick int, more bool) {
	tick = b.tick
	for _, t := range b.tasks {
		if t.phase == running && (!more || t.ends < tick) {
			tick, more = t.ends, true
		}
	}
	return tick, more
}

// isStopped tells whether nothing is begun any more.
func (b *build) isStopped() bool {
	o := b.options
	cancelled := o.Cancel != api.Never && b.tick >= o.Cancel
	spent := o.Budget != 0 && b.failures() >= o.Budget
	return cancelled || spent
}

func (b *build) failures() int {
	n := 0
	for _, t := range b.tasks {
		if t.state == api.Failed {
			n++
		}
	}
	return n
}

func (b *build) report(o disk.Outcome) api.Report {
	states := make([]int, len(b.tasks))
	for i, t := range b.tasks {
		states[i] = t.state
	}
	return api.Report{
		Files:  b.store.sorted(),
		Log:    o.Log,
		State:  states,
		Events: b.events,
		Ticks:  b.tick,
		Ops:    o.Operations,
	}
}
