package build

import (
	"mill/api"
	"mill/digest"
	"mill/plan"
	"mill/record"
)

// phase: how far a task has come.
type phase int

const (
	waiting phase = iota // for others
	ready                // for a worker
	running
	standing
)

// task: state is how it stands, Left as long as it does not. Those behind it say something only while it runs: by whom, till which tick, and of what.
type task struct {
	plan.Task
	waits        []int
	weight       int
	phase        phase
	state        int
	worker, ends int
	fingerprint  api.Digest
}

func newTasks(p plan.Plan) []task {
	weights := p.Weights()
	tasks := make([]task, len(p.Tasks))
	for i, t := range p.Tasks {
		tasks[i] = task{Task: t, waits: p.Waits[i], weight: weights[i]}
	}
	return tasks
}

// endTasks ends those that end at this tick. It tells false if power was lost over one of them.
func (b *build) endTasks() bool {
	for number, t := range b.tasks {
		if t.phase == running && t.ends == b.tick && !b.end(number) {
			return false
		}
	}
	return true
}

func (b *build) end(number int) bool {
	t := b.tasks[number]
	answer := b.crew.Take(t.worker)
	b.busy[t.worker] = false
	if answer.Failed {
		b.stand(number, api.Failed)
		b.tell(api.Broke, number, t.worker)
		return true
	}
	b.stand(number, api.Done)
	b.tell(api.Ended, number, t.worker)
	return b.lay(t, answer.Made)
}

// lay puts what a task makes into the store and on the disk: its record comes last, so that none tells of what is not there.
func (b *build) lay(t task, made []string) bool {
	r := api.Record{Print: t.fingerprint, Outs: make([]api.Digest, len(made))}
	for i, path := range t.Outputs {
		b.store.lay(path, made[i])
		if !b.journal.Lay(path, made[i]) {
			return false
		}
		r.Outs[i] = digest.Sum(made[i])
	}
	return b.journal.Note(record.Bytes(r))
}

// settleTasks goes over all tasks until nothing comes of it any more.
func (b *build) settleTasks() {
	for again := true; again; {
		again = false
		for number := range b.tasks {
			if b.settle(number) {
				again = true
			}
		}
	}
}

// settle looks whether a task need wait no longer, and tells whether that was so.
func (b *build) settle(number int) bool {
	t := &b.tasks[number]
	switch {
	case t.phase != waiting:
		return false
	case b.waitsInVain(t):
		b.stand(number, api.Skipped)
		b.tell(api.SkippedIt, number, 0)
	case !b.hasInputs(t):
		return false
	case b.isUpToDate(t):
		b.stand(number, api.Kept)
		b.tell(api.KeptIt, number, 0)
	default:
		t.phase = ready
	}
	return true
}

// waitsInVain tells whether something that a task waits for will never be made.
func (b *build) waitsInVain(t *task) bool {
	for _, number := range t.waits {
		if state := b.tasks[number].state; state == api.Failed || state == api.Skipped {
			return true
		}
	}
	return false
}

// hasInputs tells whether all that a task waits for is made.
func (b *build) hasInputs(t *task) bool {
	for _, number := range t.waits {
		if state := b.tasks[number].state; state != api.Done && state != api.Kept {
			return false
		}
	}
	return true
}

// isUpToDate tells whether what a task would make lies there already (P9).
func (b *build) isUpToDate(t *task) bool {
	r, known := b.remembered[b.store.job(t.Task).Fingerprint()]
	return known && b.store.has(t.Outputs, r.Outs)
}

func (b *build) stand(number, state int) {
	b.tasks[number].phase = standing
	b.tasks[number].state = state
}

func (b *build) tell(kind, number, worker int) {
	b.events = append(b.events, api.Event{Tick: b.tick, Kind: kind, Task: number, Worker: worker})
}
