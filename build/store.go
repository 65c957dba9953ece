package build

import (
	"mill/api"
	"mill/digest"
	"mill/plan"
	"mill/work"
)

// store: the files by their paths.
type store map[string]api.File

func newStore(files []api.File) store {
	s := make(store, len(files))
	for _, f := range files {
		s.lay(f.Path, f.Data)
	}
	return s
}

func (s store) lay(path, data string) {
	s[path] = api.File{Path: path, Data: data}
}

// job is what a task is made of now.
func (s store) job(t plan.Task) work.Job {
	inputs := make([]string, len(t.Inputs))
	for i, path := range t.Inputs {
		inputs[i] = s[path].Data
	}
	return work.Job{Action: t.Action, Inputs: inputs}
}

// has tells whether data of these digests lie at the paths. A path without a file has none, not even that of no bytes.
func (s store) has(paths []string, digests []api.Digest) bool {
	if len(paths) != len(digests) {
		return false
	}
	for i, path := range paths {
		f, there := s[path]
		if !there || digest.Sum(f.Data) != digests[i] {
			return false
		}
	}
	return true
}
