package mill_test

import (
	"regexp"
	"strings"

	"mill/api"
)

// A second reading of P4 and P5, as unlike the program as can be: lines by regular expressions, rings by the closure of the waiting, weights by going round till they rest.

var (
	poolLine = regexp.MustCompile(`\Apool ([a-z0-9._]{1,16}) ([1-9])\z`)
	taskLine = regexp.MustCompile(`\Atask((?: [a-z0-9._]{1,16})+) = ([a-z0-9._]{1,16})((?: [a-z0-9._]{1,16})*)(?: \|((?: (?:cost [1-9]|jobs [1-9]|pool [a-z0-9._]{1,16}))+))?\z`)
	fitting  = regexp.MustCompile(`\A(1 cat [0-4]|1 (rev|gate) 1|2 half 1|1 count [1-4])\z`)
)

type refTask struct {
	outputs, inputs []string
	action, pool    string
	cost, jobs      int
}

// reference: the depths of pools, how often an output is made, and the tasks.
type reference struct {
	pools map[string]int
	made  map[string]int
	tasks []refTask
}

func referenceCheck(manifest string) (int, []int, api.Errno) {
	r, n, e := referenceRead(manifest)
	if e != api.OK {
		return n, nil, e
	}
	return n, r.weights(r.waits()), e
}

func referenceRead(manifest string) (*reference, int, api.Errno) {
	if len(manifest) > 2000 {
		return nil, 0, api.ErrLong
	}
	r := &reference{pools: map[string]int{}, made: map[string]int{}}
	lines := strings.Split(manifest, "\n")
	for i, line := range lines {
		if e := r.line(line); e != api.OK {
			return nil, i, e
		}
	}
	for i, row := range r.waits().closure() {
		if row[i] {
			return nil, len(lines), api.ErrCycle
		}
	}
	return r, len(r.tasks), api.OK
}

func (r *reference) line(line string) api.Errno {
	if line == "" || strings.HasPrefix(line, "#") {
		return api.OK
	}
	if m := poolLine.FindStringSubmatch(line); m != nil {
		if r.pools[m[1]] > 0 {
			return api.ErrPool
		}
		if r.pools[m[1]] = int(m[2][0] - '0'); len(r.pools) > 6 {
			return api.ErrLong
		}
		return api.OK
	}
	if m := taskLine.FindStringSubmatch(line); m != nil {
		return r.task(strings.Fields(m[1]), m[2], strings.Fields(m[3]), strings.Fields(m[4]))
	}
	return api.ErrLine
}

func (r *reference) task(outputs []string, action string, inputs, options []string) api.Errno {
	named := map[string]string{}
	for i := 0; i < len(options); i += 2 {
		if named[options[i]] != "" {
			return api.ErrLine
		}
		named[options[i]] = options[i+1]
	}
	number := func(option string) int { return int((named[option] + "1")[0] - '0') }
	switch digits := "0123456789"; {
	case len(r.tasks) == 24:
		return api.ErrLong
	case named["pool"] != "" && r.pools[named["pool"]] == 0:
		return api.ErrPool
	case len(outputs) > 9 || len(inputs) > 9 || !fitting.MatchString(digits[len(outputs):][:1]+" "+action+" "+digits[len(inputs):][:1]):
		return api.ErrAction
	}
	for _, o := range outputs {
		r.made[o]++
	}
	for _, o := range outputs {
		if r.made[o] > 1 {
			return api.ErrTwice
		}
	}
	r.tasks = append(r.tasks, refTask{outputs, inputs, action, named["pool"], number("cost"), number("jobs")})
	return api.OK
}

type relation [24][24]bool

func (r *reference) waits() (w relation) {
	for i, t := range r.tasks {
		for j, u := range r.tasks {
			for _, in := range t.inputs {
				for _, out := range u.outputs {
					w[i][j] = w[i][j] || in == out
				}
			}
		}
	}
	return w
}

func (w relation) closure() relation {
	for k := range w {
		for i := range w {
			for j := range w {
				w[i][j] = w[i][j] || w[i][k] && w[k][j]
			}
		}
	}
	return w
}

func (r *reference) weights(w relation) []int {
	weights := make([]int, len(r.tasks))
	for range weights {
		for j, t := range r.tasks {
			most := 0
			for i := range weights {
				if w[i][j] {
					most = max(most, weights[i])
				}
			}
			weights[j] = t.cost + most
		}
	}
	return weights
}
