package disk

import (
	"maps"
	"strings"
	"sync"
	"testing"
	"testing/synctest"

	"mill/api"
)

// lies tells what lies on a disk: of each file its safe bytes, and behind a bar those that are not.
func lies(d *disk) map[string]string {
	all := map[string]string{}
	for name, f := range d.files {
		all[name] = string(f.data[:f.safe]) + "|" + string(f.data[f.safe:])
	}
	return all
}

func TestOperations(t *testing.T) {
	type files = map[string]string
	d := newDisk([]api.File{{Path: "a", Data: "xyz"}, {Path: "b"}}, "log")
	if got, want := lies(d), (files{"a": "xyz|", "b": "|", "~": "log|"}); !maps.Equal(got, want) || d.done != 0 {
		t.Errorf("P9: at first: %q, %d operations", got, d.done)
	}
	for i, step := range []struct {
		operation operation
		want      files
	}{
		{operation{kind: extend, name: "~", data: "12"}, files{"a": "xyz|", "b": "|", "~": "log|12"}},
		{operation{kind: extend, name: "~", data: "345"}, files{"a": "xyz|", "b": "|", "~": "log|12345"}},
		{operation{kind: makeSafe, name: "~"}, files{"a": "xyz|", "b": "|", "~": "log12345|"}},
		{operation{kind: write, name: "c", data: "new"}, files{"a": "xyz|", "b": "|", "c": "|new", "~": "log12345|"}},
		{operation{kind: write, name: "a", data: "ab"}, files{"a": "|ab", "b": "|", "c": "|new", "~": "log12345|"}},
		{operation{kind: rename, name: "c", to: "b"}, files{"a": "|ab", "b": "|new", "~": "log12345|"}},
		{operation{kind: makeSafe, name: "a"}, files{"a": "ab|", "b": "|new", "~": "log12345|"}},
		{operation{kind: rename, name: "a", to: "d"}, files{"b": "|new", "d": "ab|", "~": "log12345|"}},
		{operation{kind: write, name: "d"}, files{"b": "|new", "d": "|", "~": "log12345|"}},
		{operation{kind: extend, name: "e", data: "!"}, files{"b": "|new", "d": "|", "e": "|!", "~": "log12345|"}},
	} {
		d.do(step.operation)
		if got := lies(d); !maps.Equal(got, step.want) || d.done != i+1 {
			t.Errorf("behind %+v: %q, %d operations, want %q, %d", step.operation, got, d.done, step.want, i+1)
		}
	}
}

// sent is what a journal is told to do, instead of doing it.
func sent(tell func(j Journal)) (all []operation) {
	j := Journal{operations: make(chan operation)}
	go func() {
		tell(j)
		close(j.operations)
	}()
	for o := range j.operations {
		all = append(all, o)
	}
	return all
}

func TestOrderOfOperations(t *testing.T) {
	for _, c := range []struct {
		name string
		tell func(j Journal)
		want []operation
	}{
		{"Lay", func(j Journal) { j.Lay("b", "zyx") }, []operation{{write, "b~", "zyx", ""}, {makeSafe, "b~", "", ""}, {rename, "b~", "", "b"}}},
		{"Mend", func(j Journal) { j.Mend("whole") }, []operation{{write, "~new", "whole", ""}, {makeSafe, "~new", "", ""}, {rename, "~new", "", "~"}}},
		{"Note", func(j Journal) { j.Note("record") }, []operation{{extend, "~", "record", ""}, {makeSafe, "~", "", ""}}},
	} {
		got := sent(c.tell)
		if len(got) != len(c.want) {
			t.Fatalf("P10: %s: %+v, want %+v", c.name, got, c.want)
		}
		for i := range got {
			if got[i] != c.want[i] {
				t.Errorf("P10: %s: %+v, want %+v", c.name, got[i], c.want[i])
			}
		}
	}
}

func TestJournal(t *testing.T) {
	for _, c := range []struct {
		log  string
		tell func(j Journal)
		want Outcome
	}{
		{"", func(j Journal) {}, Outcome{}},
		{"whole", func(j Journal) {}, Outcome{"whole", 0}},
		{"", func(j Journal) { j.Note("1"); j.Note("2") }, Outcome{"12", 4}},
		{"torn", func(j Journal) { j.Mend("t"); j.Note("2") }, Outcome{"t2", 5}},
		{"whole", func(j Journal) { j.Lay("b", "zyx"); j.Lay("a", ""); j.Note("1") }, Outcome{"whole1", 8}},
	} {
		synctest.Test(t, func(t *testing.T) {
			var group sync.WaitGroup
			j := Start([]api.File{{Path: "a", Data: "xyz"}}, c.log, &group)
			c.tell(j)
			got := j.End()
			group.Wait()
			if got != c.want {
				t.Errorf("P11: %+v, want %+v", got, c.want)
			}
		})
	}
}

// The journal ends, whether someone asks for the outcome or not.
func TestJournalNeedNotBeAsked(t *testing.T) {
	synctest.Test(t, func(t *testing.T) {
		var group sync.WaitGroup
		j := Start(nil, "", &group)
		j.Note(strings.Repeat("x", 100))
		close(j.operations)
		group.Wait()
	})
}
