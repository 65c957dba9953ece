package disk

import (
	"maps"
	"math"
	"reflect"
	"slices"
	"strings"
	"sync"
	"testing"
	"testing/synctest"

	"mill/api"
)

// never: power is not lost.
var never = Loss{Ahead: api.Never}

// lies tells what lies on a disk: of each file its safe bytes, and behind a bar those that are not.
func lies(d *disk) map[string]string {
	all := map[string]string{}
	for name, f := range d.files {
		all[name] = string(f.data[:f.safe]) + "|" + string(f.data[f.safe:])
	}
	return all
}

func TestOperations(t *testing.T) {
	type files = map[string]string
	d := newDisk([]api.File{{Path: "a", Data: "xyz"}, {Path: "b"}}, "log", never)
	if got, want := lies(d), (files{"a": "xyz|", "b": "|", "~": "log|"}); !maps.Equal(got, want) || d.done != 0 {
		t.Errorf("P9: at first: %q, %d operations", got, d.done)
	}
	for i, step := range []struct {
		operation operation
		want      files
	}{
		{operation{kind: extend, name: "~", data: "12"}, files{"a": "xyz|", "b": "|", "~": "log|12"}},
		{operation{kind: extend, name: "~", data: "345"}, files{"a": "xyz|", "b": "|", "~": "log|12345"}},
		{operation{kind: makeSafe, name: "~"}, files{"a": "xyz|", "b": "|", "~": "log12345|"}},
		{operation{kind: write, name: "c", data: "new"}, files{"a": "xyz|", "b": "|", "c": "|new", "~": "log12345|"}},
		{operation{kind: write, name: "a", data: "ab"}, files{"a": "|ab", "b": "|", "c": "|new", "~": "log12345|"}},
		{operation{kind: rename, name: "c", to: "b"}, files{"a": "|ab", "b": "|new", "~": "log12345|"}},
		{operation{kind: makeSafe, name: "a"}, files{"a": "ab|", "b": "|new", "~": "log12345|"}},
		{operation{kind: rename, name: "a", to: "d"}, files{"b": "|new", "d": "ab|", "~": "log12345|"}},
		{operation{kind: write, name: "d"}, files{"b": "|new", "d": "|", "~": "log12345|"}},
		{operation{kind: extend, name: "e", data: "!"}, files{"b": "|new", "d": "|", "e": "|!", "~": "log12345|"}},
	} {
		did := d.do(step.operation)
		if got := lies(d); !maps.Equal(got, step.want) || d.done != i+1 || !did {
			t.Errorf("behind %+v: %q, %d operations, want %q, %d", step.operation, got, d.done, step.want, i+1)
		}
	}
}

// sent is what a journal is told to do, instead of doing it: it could do so many. Behind it stands what came of it.
func sent(could int, tell func(j Journal) bool) (all []operation, came bool) {
	j := Journal{operations: make(chan operation), did: make(chan bool)}
	go func() {
		came = tell(j)
		close(j.operations)
	}()
	for o := range j.operations {
		all = append(all, o)
		j.did <- len(all) <= could
	}
	return all, came
}

// Behind an operation that could not be done none is sent.
func TestOrderOfOperations(t *testing.T) {
	for _, c := range []struct {
		name string
		tell func(j Journal) bool
		want []operation
	}{
		{"Lay", func(j Journal) bool { return j.Lay("b", "zyx") }, []operation{{write, "b~", "zyx", ""}, {makeSafe, "b~", "", ""}, {rename, "b~", "", "b"}}},
		{"Mend", func(j Journal) bool { return j.Mend("whole") }, []operation{{write, "~new", "whole", ""}, {makeSafe, "~new", "", ""}, {rename, "~new", "", "~"}}},
		{"Note", func(j Journal) bool { return j.Note("record") }, []operation{{extend, "~", "record", ""}, {makeSafe, "~", "", ""}}},
	} {
		for could := range len(c.want) + 1 {
			got, came := sent(could, c.tell)
			want := c.want[:min(could+1, len(c.want))]
			if !slices.Equal(got, want) || came != (could == len(c.want)) {
				t.Errorf("P10, P12: %s, where %d can be done: %+v, %v, want %+v", c.name, could, got, came, want)
			}
		}
	}
}

func TestJournal(t *testing.T) {
	for _, c := range []struct {
		log  string
		tell func(j Journal)
		want Outcome
	}{
		{"", func(j Journal) {}, Outcome{xyz, "", 0, false}},
		{"whole", func(j Journal) {}, Outcome{xyz, "whole", 0, false}},
		{"", func(j Journal) { j.Note("1"); j.Note("2") }, Outcome{xyz, "12", 4, false}},
		{"torn", func(j Journal) { j.Mend("t"); j.Note("2") }, Outcome{xyz, "t2", 5, false}},
		{"whole", func(j Journal) { j.Lay("b", "zyx"); j.Lay("a", ""); j.Note("1") }, Outcome{[]api.File{{Path: "a"}, {Path: "b", Data: "zyx"}}, "whole1", 8, false}},
	} {
		if got := outcome(t, c.log, never, c.tell); !reflect.DeepEqual(got, c.want) {
			t.Errorf("P11: %+v, want %+v", got, c.want)
		}
	}
}

var xyz = []api.File{{Path: "a", Data: "xyz"}}

// outcome is what comes of a journal that is told something.
func outcome(t *testing.T, log string, loss Loss, tell func(j Journal)) (got Outcome) {
	synctest.Test(t, func(t *testing.T) {
		var group sync.WaitGroup
		j := Start(xyz, log, loss, &group)
		tell(j)
		got = j.End()
		group.Wait()
	})
	return got
}

// The journal ends, whether someone asks for the outcome or not.
func TestJournalNeedNotBeAsked(t *testing.T) {
	synctest.Test(t, func(t *testing.T) {
		var group sync.WaitGroup
		j := Start(nil, "", never, &group)
		j.Note(strings.Repeat("x", 100))
		close(j.operations)
		group.Wait()
	})
}

// Nothing is done from the lost operation on, whoever asks for it.
func TestNothingIsDoneWithoutPower(t *testing.T) {
	for ahead := range 7 {
		d := newDisk(xyz, "", Loss{Ahead: ahead})
		did := 0
		for range 6 {
			if d.do(operation{kind: extend, name: "~", data: "1"}) {
				did++
			}
		}
		if log := strings.Repeat("1", min(ahead, 6)); did != len(log) || d.done != did || d.lost != (ahead < 6) || lies(d)["~"] != "|"+log {
			t.Errorf("P12: ahead of %d: %d operations, lost: %v, %q", ahead, d.done, d.lost, lies(d))
		}
	}
}

func TestPowerIsLost(t *testing.T) {
	some := func(j Journal) { j.Lay("b", "zyx"); j.Note("123"); j.Lay("a", "") }
	both := []api.File{{Path: "a", Data: "xyz"}, {Path: "b", Data: "zyx"}}
	for _, c := range []struct {
		loss Loss
		want Outcome
	}{
		{Loss{0, []int{9}}, Outcome{xyz, "log", 0, true}},
		{Loss{1, []int{9}}, Outcome{xyz, "log", 1, true}},
		{Loss{2, []int{9}}, Outcome{xyz, "log", 2, true}},
		{Loss{3, []int{9}}, Outcome{both, "log", 3, true}},
		{Loss{4, nil}, Outcome{both, "log", 4, true}},
		{Loss{4, []int{9, 9, 2}}, Outcome{both, "log12", 4, true}},
		{Loss{4, []int{1, 9}}, Outcome{both, "log1", 4, true}},
		{Loss{5, nil}, Outcome{both, "log123", 5, true}},
		{Loss{7, nil}, Outcome{both, "log123", 7, true}},
		{Loss{8, nil}, Outcome{[]api.File{{Path: "a"}, {Path: "b", Data: "zyx"}}, "log123", 8, false}},
		{Loss{math.MaxInt, nil}, Outcome{[]api.File{{Path: "a"}, {Path: "b", Data: "zyx"}}, "log123", 8, false}},
	} {
		if got := outcome(t, "log", c.loss, some); !reflect.DeepEqual(got, c.want) {
			t.Errorf("P12: %+v: %+v, want %+v", c.loss, got, c.want)
		}
	}
}

// The first two bytes of each file are safe, four more are not. Of each name the number of bytes that are left is told.
func TestWhatIsKept(t *testing.T) {
	names := []string{"a", "a.b", "a0", "a_", "aa", "aa~", "a~", "b", "b~", "z", "z~", "~", "~new"}
	for _, c := range []struct {
		keeps []int
		want  []int
	}{
		{nil, []int{2, 2, 2, 2, 2, 2, 2, 2, 2, 2, 2, 2, 2}},
		{[]int{}, []int{2, 2, 2, 2, 2, 2, 2, 2, 2, 2, 2, 2, 2}},
		{[]int{0}, []int{2, 2, 2, 2, 2, 2, 2, 2, 2, 2, 2, 2, 2}},
		{[]int{3}, []int{5, 5, 5, 5, 5, 5, 5, 5, 5, 5, 5, 5, 5}},
		{[]int{4}, []int{6, 6, 6, 6, 6, 6, 6, 6, 6, 6, 6, 6, 6}},
		{[]int{5}, []int{6, 6, 6, 6, 6, 6, 6, 6, 6, 6, 6, 6, 6}},
		{[]int{math.MaxInt, math.MaxInt - 1}, []int{6, 6, 6, 6, 6, 6, 6, 6, 6, 6, 6, 6, 6}},
		{[]int{0, 1, 2}, []int{2, 3, 4, 2, 3, 4, 2, 3, 4, 2, 3, 4, 2}},
		{[]int{4, 3, 2, 1}, []int{6, 5, 4, 3, 6, 5, 4, 3, 6, 5, 4, 3, 6}},
		{[]int{0, 1, 2, 3, 4, 0, 1, 2, 3, 4, 9, 1, 2}, []int{2, 3, 4, 5, 6, 2, 3, 4, 5, 6, 6, 3, 4}},
		{[]int{0, 1, 2, 3, 4, 0, 1, 2, 3, 4, 0, 1, 2, 3, 4}, []int{2, 3, 4, 5, 6, 2, 3, 4, 5, 6, 2, 3, 4}},
	} {
		d := newDisk(nil, "", Loss{Keeps: c.keeps})
		for _, name := range names {
			d.files[name] = file{data: []byte("123456"), safe: 2}
		}
		d.losePower()
		for i, name := range names {
			if got := string(d.files[name].data); got != "123456"[:c.want[i]] {
				t.Errorf("P12: keeps %v: %s has %q, want %d bytes", c.keeps, name, got, c.want[i])
			}
		}
		if got := d.outcome(); got.Log != "123456"[:c.want[11]] || !slices.Equal(paths(got.Files), []string{"a", "a.b", "a0", "a_", "aa", "b", "z"}) || got.Files[2].Data != "123456"[:c.want[2]] {
			t.Errorf("P12: keeps %v: %+v", c.keeps, got)
		}
	}
}

func paths(files []api.File) (all []string) {
	for _, f := range files {
		all = append(all, f.Path)
	}
	return all
}

// Who has no power lost keeps all, safe or not; and a file that is gone has no bytes.
func TestOutcome(t *testing.T) {
	d := newDisk(xyz, "log", Loss{Ahead: 3, Keeps: []int{1}})
	d.do(operation{kind: extend, name: "a", data: "123"})
	d.do(operation{kind: write, name: "b", data: "456"})
	d.do(operation{kind: rename, name: "~", to: "c~"})
	if got, want := d.outcome(), (Outcome{[]api.File{{Path: "a", Data: "xyz123"}, {Path: "b", Data: "456"}}, "", 3, false}); !reflect.DeepEqual(got, want) {
		t.Errorf("P11: %+v, want %+v", got, want)
	}
	d.do(operation{kind: makeSafe, name: "b"})
	if got, want := d.outcome(), (Outcome{[]api.File{{Path: "a", Data: "xyz1"}, {Path: "b", Data: "4"}}, "", 3, true}); !reflect.DeepEqual(got, want) {
		t.Errorf("P12: %+v, want %+v", got, want)
	}
}
