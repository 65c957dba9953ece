package mill_test

import (
	"fmt"
	"slices"
	"testing"

	"mill/api"
	"mill/mill"
)

func TestWeights(t *testing.T) {
	line := make([]string, 24)
	falling := make([]int, 24)
	for i := range line {
		line[i] = fmt.Sprintf("task t%d = cat t%d | cost 9", i+1, i)
		falling[i] = 9 * (24 - i)
	}
	rising := slices.Clone(falling)
	slices.Reverse(rising)
	back := slices.Clone(line)
	slices.Reverse(back)
	for _, c := range []struct {
		manifest string
		want     []int
	}{
		{"", nil},
		{"pool p 3\n# no task", nil},
		{"task b = rev a", []int{1}},
		{"task b = rev a | cost 9", []int{9}},
		{text("task b = rev a | cost 2", "task c = cat b b", "task d = cat a | cost 5"), []int{3, 1, 5}},
		// the greatest of those that wait, not their sum, nor the first or last of them
		{text("task a = cat", "task b = cat a | cost 2", "task c = cat a | cost 7", "task d = cat a | cost 3"), []int{8, 2, 7, 3}},
		{text("task d = cat b c | cost 2", "task c = cat a | cost 7", "task b = rev a | cost 3", "task a = cat"), []int{2, 9, 5, 10}},
		// both outputs are waited for
		{text("task b c = half a | cost 2", "task d = cat b | cost 4", "task e = cat c | cost 6"), []int{8, 4, 6}},
		// a short way and a long one
		{text("task a = cat", "task b = cat a", "task c = cat a b"), []int{3, 2, 1}},
		// jobs and pools weigh nothing
		{text("pool p 1", "task a = cat | jobs 9 pool p", "task b = cat a | jobs 8 cost 2"), []int{3, 2}},
		{text(line...), falling},
		{text(back...), rising},
	} {
		if got, e := mill.Weights(c.manifest); !slices.Equal(got, c.want) || e != api.OK {
			t.Errorf("P5: Weights(%.90q) = %v, %d, want %v", c.manifest, got, e, c.want)
		}
	}
}
