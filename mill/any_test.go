package mill_test

import (
	"fmt"
	"math"
	"math/rand/v2"
	"slices"
	"strings"
	"sync"
	"testing"

	"mill/api"
	"mill/mill"
)

// compare holds the program against the second reading, and tells the error.
func compare(t *testing.T, m string) api.Errno {
	t.Helper()
	n, weights, want := referenceCheck(m)
	if got, e := mill.Check(m); got != n || e != want {
		t.Errorf("P4: Check(%q) = %d, %d, want %d, %d", m, got, e, n, want)
	}
	got, e := mill.Weights(m)
	if e != want || !slices.Equal(got, weights) {
		t.Errorf("P5: Weights(%q) = %v, %d, want %v, %d", m, got, e, weights, want)
	}
	if e != api.OK && got != nil {
		t.Errorf("P1: Weights(%q) = %v with error %d", m, got, e)
	}
	return e
}

// maker makes manifests, mostly right ones. It begins with a fixed seed: every run makes the same.
type maker struct{ *rand.Rand }

func newMaker() maker { return maker{rand.New(rand.NewPCG(1, 5))} }

func (k maker) pick(words ...string) string { return words[k.IntN(len(words))] }

func (k maker) name(bound int) string { return fmt.Sprintf("n%d", k.IntN(bound)) }

func (k maker) options() string {
	s := ""
	for _, i := range k.Perm(3) {
		if k.IntN(3) == 0 {
			s += []string{fmt.Sprint(" cost ", 1+k.IntN(9)), fmt.Sprint(" jobs ", 1+k.IntN(9)), " pool p0"}[i]
		}
	}
	if s != "" {
		s = " |" + s
	}
	return s
}

// task makes the line of task i; its inputs come from tasks ahead of it, or now and then from any.
func (k maker) task(i int) string {
	bound := i + 1
	if k.IntN(12) == 0 {
		bound = 30
	}
	outputs, action, inputs := fmt.Sprintf("n%d", i+1), k.pick("cat", "rev", "half", "count", "gate"), 1
	if k.IntN(40) == 0 {
		outputs = k.name(30)
	}
	switch action {
	case "half":
		outputs += k.pick(" h", " m") + fmt.Sprint(i)
	case "cat", "count":
		inputs = 1 + k.IntN(4)
	}
	if k.IntN(40) == 0 {
		inputs = k.IntN(6)
	}
	line := "task " + outputs + " = " + action
	for range inputs {
		line += " " + k.name(bound)
	}
	return line + k.options()
}

func (k maker) manifest() string {
	lines := []string{"pool p0 2"}
	for i := range k.IntN(7) {
		lines = append(lines, fmt.Sprintf("pool p%d %d", 1+i*k.IntN(20)/19, 1+k.IntN(9)))
	}
	if k.IntN(3) > 0 {
		lines = lines[:1]
	}
	for i := range k.IntN(27) {
		lines = append(lines, k.task(i))
		if k.IntN(20) == 0 {
			lines = append(lines, k.pick("", "#", "# x  y", "pool p1 3"))
		}
	}
	if k.IntN(2) == 0 {
		k.Shuffle(len(lines)-1, func(i, j int) { lines[i+1], lines[j+1] = lines[j+1], lines[i+1] })
	}
	return strings.Join(lines, "\n")
}

// spoil changes some bytes of a text.
func (k maker) spoil(m string) string {
	b := []byte(m)
	for range 1 + k.IntN(3) {
		i := k.IntN(len(b) + 1)
		piece := k.pick(" ", "\n", "|", "=", "#", "0", "a", "~", "\x00", "\xff", "\r", " | cost 1", " cost 2", "task ", "pool p0 1\n")
		b = slices.Concat(b[:i], []byte(piece), b[min(len(b), i+k.IntN(3)):])
	}
	return string(b)
}

func TestManyManifests(t *testing.T) {
	k := newMaker()
	seen := map[api.Errno]int{}
	for range 6000 {
		m := k.manifest()
		seen[compare(t, m)]++
		compare(t, k.spoil(m))
	}
	for e := api.OK; e <= api.ErrCycle; e++ {
		if e != api.ErrLine && seen[e] < 20 {
			t.Errorf("these tests have met error %d only %d times", e, seen[e])
		}
	}
}

func TestAnyBytes(t *testing.T) {
	k := newMaker()
	for n := range 3000 {
		b := make([]byte, k.IntN(n+1))
		for i := range b {
			b[i] = byte(k.IntN(256))
		}
		compare(t, string(b))
		mill.Sum(string(b))
	}
	words := []string{"task", "pool", "cost", "jobs", "cat", "half", "=", "|", " ", " ", " ", "\n", "a", "b", "1", "#", ""}
	for range 20000 {
		m := ""
		for range k.IntN(20) {
			m += k.pick(words...)
		}
		compare(t, m)
	}
	for _, long := range []string{strings.Repeat(" ", 2000), strings.Repeat("=", 2000), strings.Repeat("|", 2000), "task" + strings.Repeat(" a", 990) + " = b", "task b = cat" + strings.Repeat(" a", 990), "task b = cat |" + strings.Repeat(" cost 1", 280)} {
		compare(t, long)
	}
	for _, huge := range []int{1 << 16, 1 << 22} {
		compare(t, strings.Repeat("task a = cat\n", huge))
	}
}

// Build ends at all strings, lists and numbers.
func TestBuildEnds(t *testing.T) {
	for _, s := range []string{"", "R", "R\x01", "R\x02" + strings.Repeat("\xff", 500), "task b = rev a", "\x00\n"} {
		for _, n := range []int{math.MinInt, -1, 0, 1, math.MaxInt} {
			mill.Build(s, []api.File{{}, {Path: s, Data: s}}, s, api.Options{Workers: n, Tokens: n, Budget: n, Cancel: n, Crash: n, Keeps: []int{n}})
			mill.Build(s, nil, s, api.Options{})
			o := with(1)
			o.Crash, o.Keeps = max(n, api.Never), []int{max(n, 0)}
			if _, e := mill.Build(threeTasks, list("a", "xyz"), s, o); e != api.OK {
				t.Errorf("P8: with Crash %d: error %d", o.Crash, e)
			}
		}
	}
}

func TestWeightsAreNewMemory(t *testing.T) {
	m := text("task b = rev a | cost 2", "task c = cat b b", "task d = cat a | cost 5")
	want := []int{3, 1, 5}
	first, _ := mill.Weights(m)
	second, _ := mill.Weights(m)
	for i := range first[:cap(first)] {
		first[:cap(first)][i] = 77
	}
	if third, _ := mill.Weights(m); !slices.Equal(second, want) || !slices.Equal(third, want) {
		t.Errorf("P2: behind what was written into a list: %v, %v, want %v", second, third, want)
	}
}

// Nothing is kept from one call to another one, and calls at the same time do not meet.
func TestAnswersHangOnArgumentsAlone(t *testing.T) {
	k := newMaker()
	manifests := make([]string, 60)
	for i := range manifests {
		manifests[i] = k.manifest()
	}
	var group sync.WaitGroup
	for w := range 4 {
		group.Go(func() {
			for i := range manifests {
				m := manifests[(i*7+w*13)%len(manifests)]
				n, weights, want := referenceCheck(m)
				got, e := mill.Check(m)
				list, f := mill.Weights(m)
				if got != n || e != want || f != want || !slices.Equal(list, weights) {
					t.Errorf("P2: of %q: %d, %d, %v, %d", m, got, e, list, f)
				}
			}
		})
	}
	group.Wait()
}

func FuzzManifest(f *testing.F) {
	k := newMaker()
	for range 20 {
		f.Add(k.manifest())
	}
	f.Fuzz(func(t *testing.T, m string) { compare(t, m) })
}
