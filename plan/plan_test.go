package plan

import (
	"reflect"
	"strings"
	"testing"

	"mill/api"
)

func text(lines ...string) string { return strings.Join(lines, "\n") }

func TestReadPlan(t *testing.T) {
	p, n, e := Read(text(
		"pool slow 1",
		"# the pools end here",
		"pool p2 9",
		"",
		"task b c = half a | pool p2 cost 4 jobs 9",
		"task d = cat",
		"task e = count c b e.0 d | jobs 2",
		"task f = gate d | cost 9",
	))
	want := Plan{
		Pools: []Pool{{"slow", 1}, {"p2", 9}},
		Tasks: []Task{
			{Outputs: []string{"b", "c"}, Inputs: []string{"a"}, Action: "half", Cost: 4, Jobs: 9, Pool: "p2"},
			{Outputs: []string{"d"}, Inputs: []string{}, Action: "cat", Cost: 1, Jobs: 1},
			{Outputs: []string{"e"}, Inputs: []string{"c", "b", "e.0", "d"}, Action: "count", Cost: 1, Jobs: 2},
			{Outputs: []string{"f"}, Inputs: []string{"d"}, Action: "gate", Cost: 9, Jobs: 1},
		},
		Waits: [][]int{nil, nil, {0, 1}, {1}},
	}
	if !reflect.DeepEqual(p, want) || n != 4 || e != api.OK {
		t.Errorf("P4: Read = %+v, %d, %d, want %+v", p, n, e, want)
	}
}

func TestReadOptionsInAnyOrder(t *testing.T) {
	for _, options := range []string{
		"cost 2 jobs 3 pool p", "cost 2 pool p jobs 3", "jobs 3 cost 2 pool p",
		"jobs 3 pool p cost 2", "pool p cost 2 jobs 3", "pool p jobs 3 cost 2",
	} {
		p, _, e := Read(text("pool p 1", "task b = cat | "+options))
		if e != api.OK || p.Tasks[0].Cost != 2 || p.Tasks[0].Jobs != 3 || p.Tasks[0].Pool != "p" {
			t.Errorf("P4: %q: %+v, %d", options, p, e)
		}
	}
}

func TestReadWrongPlanIsEmpty(t *testing.T) {
	for _, m := range []string{
		strings.Repeat("#", api.MaxManifest+1),
		text("task b = cat", "nonsense"),
		text("pool p 1", "task b = rev b"),
	} {
		if p, _, e := Read(m); e == api.OK || !reflect.DeepEqual(p, Plan{}) {
			t.Errorf("P1: Read(%.40q) = %+v, %d", m, p, e)
		}
	}
}

func TestWaitsBackwardAndForward(t *testing.T) {
	p, _, e := Read(text("task c = cat b b a", "task b = cat a", "task a = cat x", "task d = cat c x"))
	want := [][]int{{1, 2}, {2}, nil, {0}}
	if e != api.OK || !reflect.DeepEqual(p.Waits, want) {
		t.Errorf("P4: Waits = %v, %d, want %v", p.Waits, e, want)
	}
}

func TestMakes(t *testing.T) {
	p, _, _ := Read(text("pool p 1", "task b c = half a", "task d = cat x | pool p"))
	for path, want := range map[string]bool{"b": true, "c": true, "d": true, "a": false, "x": false, "p": false, "": false, "cat": false} {
		if p.Makes(path) != want {
			t.Errorf("P8: Makes(%q) is not %v", path, want)
		}
	}
}

func TestIsName(t *testing.T) {
	for c := range 256 {
		want := strings.ContainsRune("abcdefghijklmnopqrstuvwxyz0123456789._", rune(c))
		if got := IsName(string([]byte{byte(c)})); got != want {
			t.Errorf("P4: the byte %d as a name: %v", c, got)
		}
		if got := IsName(string([]byte{'a', byte(c), 'z'})); got != want {
			t.Errorf("P4: the byte %d within a name: %v", c, got)
		}
	}
	for n := range 40 {
		if got := IsName(strings.Repeat("a", n)); got != (1 <= n && n <= 16) {
			t.Errorf("P4: a name of %d bytes: %v", n, got)
		}
	}
}
