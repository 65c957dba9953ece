package build

import (
	"slices"
	"sync"
	"testing"
	"testing/synctest"

	"mill/api"
	"mill/plan"
)

// eventsUntil are those of a build until power is lost: no report tells them.
func eventsUntil(t *testing.T, manifest, log string, ahead int) (events []api.Event) {
	p, _, e := plan.Read(manifest)
	if e != api.OK {
		t.Fatalf("%q is wrong: %d", manifest, e)
	}
	files := []api.File{{Path: "a", Data: "xyz"}}
	o := api.Options{Workers: 2, Tokens: 9, Cancel: api.Never, Crash: ahead}
	synctest.Test(t, func(t *testing.T) {
		var group sync.WaitGroup
		b := newBuild(p, files, log, o, &group)
		b.run(log)
		b.crew.End()
		b.journal.End()
		group.Wait()
		events = b.events
	})
	return events
}

// The build ends where power is lost: the task that was to be laid down is the last one that something happens to.
func TestNothingHappensWithoutPower(t *testing.T) {
	for _, c := range []struct {
		manifest, log string
		last          []int // for each operation the number of events ahead of it
	}{
		{"task b = rev a | cost 2\ntask c = cat b b\ntask d = cat a | cost 5", "", []int{3, 3, 3, 3, 3, 5, 5, 5, 5, 5, 6, 6, 6, 6, 6, 6, 6}},
		{"task b = rev a\ntask c = cat a", "", []int{3, 3, 3, 3, 3, 4, 4, 4, 4, 4, 4, 4}},
		{"task b c = half a\ntask d = rev b", "", []int{2, 2, 2, 2, 2, 2, 2, 2, 4, 4, 4, 4, 4, 4, 4}},
		{"task b = rev a", "torn", []int{0, 0, 0, 2, 2, 2, 2, 2, 2, 2}},
	} {
		all := eventsUntil(t, c.manifest, c.log, api.Never)
		for ahead, last := range c.last {
			if got := eventsUntil(t, c.manifest, c.log, ahead); !slices.Equal(got, all[:last]) {
				t.Errorf("P12: %q, power is lost ahead of %d: %+v, want the first %d of %+v", c.manifest, ahead, got, last, all)
			}
		}
	}
}
