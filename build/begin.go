package build

import (
	"slices"

	"mill/api"
)

// none: no task, or no worker; so the library tells it too.
const none = -1

// beginTasks begins tasks as long as there are a free worker and a task that may run.
func (b *build) beginTasks() {
	for {
		worker := slices.Index(b.busy, false)
		number := b.heaviest()
		if worker == none || number == none {
			return
		}
		b.begin(number, worker)
	}
}

// begin hands a task to a worker, with all that it is made of: what is laid into the store from now on does not matter to it.
func (b *build) begin(number, worker int) {
	t := &b.tasks[number]
	job := b.store.job(t.Task)
	t.phase = running
	t.worker = worker
	t.ends = b.tick + t.Cost
	t.fingerprint = job.Fingerprint()
	b.busy[worker] = true
	b.tell(api.Started, number, worker)
	b.crew.Give(worker, job)
}

// heaviest is the task of the greatest weight, of several the one of the lowest number, among those that may run: none, if none may.
func (b *build) heaviest() int {
	best := none
	for number := range b.tasks {
		t := &b.tasks[number]
		if t.phase == ready && b.hasRoom(t) && (best == none || t.weight > b.tasks[best].weight) {
			best = number
		}
	}
	return best
}

// hasRoom tells whether a task's pool and the tokens let it run beside those that run now.
func (b *build) hasRoom(t *task) bool {
	return b.poolHasRoom(t.Pool) && b.tokensHeld()+b.tokensOf(t) <= b.options.Tokens
}

// poolHasRoom finds no pool of the name that a task without one has.
func (b *build) poolHasRoom(name string) bool {
	for _, pool := range b.pools {
		if pool.Name == name {
			return b.runningIn(name) < pool.Depth
		}
	}
	return true
}

func (b *build) runningIn(pool string) int {
	n := 0
	for _, t := range b.tasks {
		if t.phase == running && t.Pool == pool {
			n++
		}
	}
	return n
}

func (b *build) tokensHeld() int {
	n := 0
	for i := range b.tasks {
		if b.tasks[i].phase == running {
			n += b.tokensOf(&b.tasks[i])
		}
	}
	return n
}

// tokensOf a task are never more than there are: else it could not run at all.
func (b *build) tokensOf(t *task) int {
	return min(t.Jobs, b.options.Tokens)
}
