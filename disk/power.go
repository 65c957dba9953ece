package disk

import (
	"maps"
	"slices"
	"strings"

	"mill/api"
)

// Loss: ahead of which operation power is lost (api.Never, if of none), and how many bytes each file then keeps behind its safe ones. Where the list of these ends it begins anew.
type Loss struct {
	Ahead int
	Keeps []int
}

func (l Loss) keeps(number int) int {
	if len(l.Keeps) == 0 {
		return 0
	}
	return l.Keeps[number%len(l.Keeps)]
}

// Outcome: what lies on the disk in the end, how many operations were done, and whether power was lost.
type Outcome struct {
	Files      []api.File
	Log        string
	Operations int
	Lost       bool
}

func (d *disk) outcome() Outcome {
	if d.lost {
		d.losePower()
	}
	return Outcome{Files: d.atPaths(), Log: string(d.files[logName].data), Operations: d.done, Lost: d.lost}
}

// losePower leaves of each file what outlasts it (P12).
func (d *disk) losePower() {
	for number, name := range d.names() {
		f := d.files[name]
		// The keeps may be as great as numbers are: held against the rest first, no sum is too great.
		rest := len(f.data) - f.safe
		f.data = f.data[:f.safe+min(rest, d.loss.keeps(number))]
		d.files[name] = f
	}
}

// atPaths lists the files that are neither the log nor beside their place yet.
func (d *disk) atPaths() []api.File {
	files := make([]api.File, 0, len(d.files))
	for _, name := range d.names() {
		if !strings.Contains(name, aside) {
			files = append(files, api.File{Path: name, Data: string(d.files[name].data)})
		}
	}
	return files
}

// names are those of all files, in rising order.
func (d *disk) names() []string { return slices.Sorted(maps.Keys(d.files)) }
