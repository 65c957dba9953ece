package work

import (
	"fmt"
	"slices"
	"strings"
	"sync"
	"testing"
	"testing/synctest"

	"mill/digest"
)

func TestDo(t *testing.T) {
	x := strings.Repeat("x", 256)
	for _, c := range []struct {
		action string
		inputs []string
		made   []string
	}{
		{"cat", nil, []string{""}},
		{"cat", []string{"12", "", "3"}, []string{"123"}},
		{"cat", []string{x, ""}, []string{x}},
		{"cat", []string{x, "x"}, nil},
		{"rev", []string{"123"}, []string{"321"}},
		{"rev", []string{x + "x"}, nil},
		{"half", []string{"123"}, []string{"1", "23"}},
		{"half", []string{""}, []string{"", ""}},
		{"half", []string{x + x + "x"}, nil},
		{"count", []string{x, x, x, x}, []string{"1024"}},
		{"gate", []string{"fine"}, []string{"fine"}},
		{"gate", []string{"no!"}, nil},
	} {
		got := Job{Action: c.action, Inputs: c.inputs}.Do()
		if !slices.Equal(got.Made, c.made) || got.Failed != (c.made == nil) {
			t.Errorf("P10: %s of %.60q: %.60q, failed: %v", c.action, c.inputs, got.Made, got.Failed)
		}
	}
}

func TestFingerprint(t *testing.T) {
	for _, c := range []struct {
		job  Job
		text string
	}{
		{Job{Action: "cat"}, "cat\n"},
		{Job{Action: "cat", Inputs: []string{""}}, "cat\n0:"},
		{Job{Action: "count", Inputs: []string{"1", "é", "0123456789"}}, "count\n1:12:é10:0123456789"},
	} {
		if c.job.Fingerprint() != digest.Sum(c.text) {
			t.Errorf("P9: the fingerprint of %q is not that of %q", c.job, c.text)
		}
	}
}

// All workers have a job at the same time, and their answers are taken in another order.
func TestCrew(t *testing.T) {
	for workers := 1; workers <= 8; workers++ {
		synctest.Test(t, func(t *testing.T) {
			var group sync.WaitGroup
			c := Start(workers, &group)
			for round := range 3 {
				for w := range workers {
					c.Give(w, Job{Action: "cat", Inputs: []string{fmt.Sprint(round), fmt.Sprint(w)}})
				}
				for w := workers - 1; w >= 0; w-- {
					if got, want := c.Take(w), fmt.Sprint(round, w); !slices.Equal(got.Made, []string{strings.ReplaceAll(want, " ", "")}) {
						t.Errorf("worker %d of %d: %q", w, workers, got.Made)
					}
				}
			}
			c.End()
			group.Wait()
		})
	}
}

// Workers end also when nobody takes their answers.
func TestCrewEndsWithAnswersLeft(t *testing.T) {
	synctest.Test(t, func(t *testing.T) {
		var group sync.WaitGroup
		c := Start(8, &group)
		for w := range 5 {
			c.Give(w, Job{Action: "rev", Inputs: []string{"xyz"}})
		}
		c.End()
		group.Wait()
	})
}
