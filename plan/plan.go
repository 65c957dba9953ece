// Package plan reads manifests: which pools and tasks there are, and which task waits for which.
package plan

import (
	"slices"
	"strings"

	"mill/api"
)

// Plan: what a manifest says. Waits has for each task the numbers of those that it waits for, each once.
type Plan struct {
	Pools []Pool
	Tasks []Task
	Waits [][]int
}

// Read reads a manifest. Its number and its error are those of Check (P4); with an error the plan is empty.
func Read(text string) (Plan, int, api.Errno) {
	if len(text) > api.MaxManifest {
		return Plan{}, 0, api.ErrLong
	}
	r := reader{makers: map[string]int{}}
	lines := strings.Split(text, "\n")
	for number, line := range lines {
		if e := r.takeLine(line); e != api.OK {
			return Plan{}, number, e
		}
	}
	waits := r.waits()
	if hasRing(waits) {
		return Plan{}, len(lines), api.ErrCycle
	}
	return Plan{Pools: r.pools, Tasks: r.tasks, Waits: waits}, len(r.tasks), api.OK
}

// Makes tells whether a path is an output of a task.
func (p Plan) Makes(path string) bool {
	return slices.ContainsFunc(p.Tasks, func(t Task) bool { return slices.Contains(t.Outputs, path) })
}

// reader: what the lines have said so far. makers has for each output the number of its task.
type reader struct {
	pools  []Pool
	tasks  []Task
	makers map[string]int
}

func (r *reader) takeLine(line string) api.Errno {
	if saysNothing(line) {
		return api.OK
	}
	words := splitWords(line)
	switch words[0] {
	case "pool":
		if pool, ok := readPool(words[1:]); ok {
			return r.addPool(pool)
		}
	case "task":
		if task, ok := readTask(words[1:]); ok {
			return r.addTask(task)
		}
	}
	return api.ErrLine
}

func (r *reader) addPool(pool Pool) api.Errno {
	if r.hasPool(pool.Name) {
		return api.ErrPool
	}
	if len(r.pools) == api.MaxPools {
		return api.ErrLong
	}
	r.pools = append(r.pools, pool)
	return api.OK
}

// addTask asks in the order in which the errors are named.
func (r *reader) addTask(task Task) api.Errno {
	if len(r.tasks) == api.MaxTasks {
		return api.ErrLong
	}
	if task.Pool != "" && !r.hasPool(task.Pool) {
		return api.ErrPool
	}
	if !fitsAction(task) {
		return api.ErrAction
	}
	if !r.claimOutputs(task.Outputs) {
		return api.ErrTwice
	}
	r.tasks = append(r.tasks, task)
	return api.OK
}

func (r *reader) hasPool(name string) bool {
	return slices.ContainsFunc(r.pools, func(p Pool) bool { return p.Name == name })
}

// claimOutputs gives outputs to the task that comes next. They are claimed one by one, so that an output that the task itself has twice is found as well.
func (r *reader) claimOutputs(outputs []string) bool {
	for _, output := range outputs {
		if _, claimed := r.makers[output]; claimed {
			return false
		}
		r.makers[output] = len(r.tasks)
	}
	return true
}

// waits is known only when all lines are read: a task may wait for one that stands behind it.
func (r *reader) waits() [][]int {
	all := make([][]int, len(r.tasks))
	for number, task := range r.tasks {
		for _, input := range task.Inputs {
			maker, made := r.makers[input]
			if made && !slices.Contains(all[number], maker) {
				all[number] = append(all[number], maker)
			}
		}
	}
	return all
}
