// Package disk is the disk that a build lays its files on, and the journal that does what is to be done there.
package disk

import "mill/api"

// kind: which of the operations.
type kind int

const (
	write kind = iota
	extend
	makeSafe
	rename
)

// operation: data is what a write or an extend brings; to is the name that a rename gives.
type operation struct {
	kind           kind
	name, data, to string
}

// file: the first bytes of its data, as many as safe tells, outlast a loss of power.
type file struct {
	data []byte
	safe int
}

// disk: files by their names, how many operations were done, and whether power was lost.
type disk struct {
	files map[string]file
	loss  Loss
	done  int
	lost  bool
}

// newDisk has the files of a build and its log; all of their bytes are safe.
func newDisk(files []api.File, log string, loss Loss) *disk {
	d := &disk{files: make(map[string]file, len(files)+1), loss: loss}
	for _, f := range files {
		d.files[f.Path] = safeFile(f.Data)
	}
	d.files[logName] = safeFile(log)
	return d
}

func safeFile(data string) file {
	return file{data: []byte(data), safe: len(data)}
}

// do does the next operation, and tells whether it could: not if power is lost ahead of it, and no later one either.
func (d *disk) do(o operation) bool {
	if d.done == d.loss.Ahead {
		d.lost = true
		return false
	}
	d.change(o)
	d.done++
	return true
}

func (d *disk) change(o operation) {
	f := d.files[o.name]
	switch o.kind {
	case write:
		d.files[o.name] = file{data: []byte(o.data)}
	case extend:
		f.data = append(f.data, o.data...)
		d.files[o.name] = f
	case makeSafe:
		f.safe = len(f.data)
		d.files[o.name] = f
	case rename:
		delete(d.files, o.name)
		d.files[o.to] = f
	}
}
