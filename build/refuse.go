package build

import (
	"slices"

	"mill/api"
	"mill/plan"
)

// refuse tells why a build may not run (P8). It asks in the order in which the errors are named.
func refuse(p plan.Plan, files []api.File, o api.Options) api.Errno {
	switch {
	case !filesFit(files):
		return api.ErrFiles
	case !inputsFit(p, files):
		return api.ErrInput
	case !optionsFit(o):
		return api.ErrOption
	}
	return api.OK
}

func filesFit(files []api.File) bool {
	if len(files) > api.MaxFiles {
		return false
	}
	for i, f := range files {
		if !plan.IsName(f.Path) || hasPath(files[:i], f.Path) {
			return false
		}
	}
	return true
}

func inputsFit(p plan.Plan, files []api.File) bool {
	for _, task := range p.Tasks {
		for _, input := range task.Inputs {
			if !hasPath(files, input) && !p.Makes(input) {
				return false
			}
		}
	}
	return true
}

func hasPath(files []api.File, path string) bool {
	return slices.ContainsFunc(files, func(f api.File) bool { return f.Path == path })
}

func optionsFit(o api.Options) bool {
	return isWithin(o.Workers, 1, api.MaxWorkers) &&
		isWithin(o.Tokens, 1, api.MaxTokens) &&
		o.Budget >= 0 &&
		o.Cancel >= api.Never &&
		o.Crash >= api.Never &&
		!slices.ContainsFunc(o.Keeps, isBelowNought)
}

func isWithin(n, least, most int) bool { return least <= n && n <= most }

func isBelowNought(n int) bool { return n < 0 }
