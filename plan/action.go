package plan

import "mill/api"

// shape: how many outputs and inputs an action wants.
type shape struct {
	action                         string
	outputs, fewInputs, mostInputs int
}

var shapes = [...]shape{
	{"cat", 1, 0, api.MaxInputs},
	{"rev", 1, 1, 1},
	{"half", 2, 1, 1},
	{"count", 1, 1, api.MaxInputs},
	{"gate", 1, 1, 1},
}

// fitsAction tells whether a task's action is there, and has the outputs and inputs that it wants.
func fitsAction(task Task) bool {
	for _, s := range shapes {
		if s.action == task.Action {
			inputs := len(task.Inputs)
			return len(task.Outputs) == s.outputs && s.fewInputs <= inputs && inputs <= s.mostInputs
		}
	}
	return false
}
