package disk

import (
	"sync"

	"mill/api"
)

// No path has a `~`: these names meet none.
const (
	logName = "~"
	newLog  = "~new"
	aside   = "~" // stands behind the path of a file that is not whole yet
)

// Journal does the operations of a disk, one after the other. It is a goroutine, and the only one that touches the disk.
type Journal struct {
	operations chan operation
	did        chan bool
	outcome    chan Outcome
}

// Start begins a journal on a disk that has these files and this log. The group waits for it; it ends when End is called.
func Start(files []api.File, log string, loss Loss, group *sync.WaitGroup) Journal {
	// The outcome has room to lie in, so that the journal need not wait until someone asks for it.
	j := Journal{operations: make(chan operation), did: make(chan bool), outcome: make(chan Outcome, 1)}
	group.Add(1)
	go j.run(newDisk(files, log, loss), group)
	return j
}

func (j Journal) run(d *disk, group *sync.WaitGroup) {
	defer group.Done()
	for o := range j.operations {
		j.did <- d.do(o)
	}
	j.outcome <- d.outcome()
}

// End tells the journal that nothing more is coming, and what came of all.
func (j Journal) End() Outcome {
	close(j.operations)
	return <-j.outcome
}

// Lay puts data at a path. It tells false, as Mend and Note do, if power was lost: then all is over.
func (j Journal) Lay(path, data string) bool {
	return j.replace(path, path+aside, data)
}

// Mend puts a whole log in the place of one that is torn.
func (j Journal) Mend(log string) bool {
	return j.replace(logName, newLog, log)
}

// Note lays a record behind the log.
func (j Journal) Note(record string) bool {
	return j.do(operation{kind: extend, name: logName, data: record}) &&
		j.do(operation{kind: makeSafe, name: logName})
}

// replace makes the file under another name first: whenever power is lost, what has the right name is whole.
func (j Journal) replace(name, beside, data string) bool {
	return j.do(operation{kind: write, name: beside, data: data}) &&
		j.do(operation{kind: makeSafe, name: beside}) &&
		j.do(operation{kind: rename, name: beside, to: name})
}

// do waits until an operation is done, so that nobody goes on when power is lost.
func (j Journal) do(o operation) bool {
	j.operations <- o
	return <-j.did
}
