package mill_test

import (
	"bytes"
	"fmt"
	"regexp"
	"slices"
	"strings"

	"mill/api"
	"mill/mill"
)

// A second reading of P8 to P12, as unlike the program as can be: one goroutine alone, each tick is gone through, and all runs that ever were stay in a list: what holds at a tick is told from it. The store is a list in order; of the disk there are the log and a number. A build runs to its end, whenever power is lost; what was left ahead of that operation is set aside.

var pathName = regexp.MustCompile(`\A[a-z0-9._]{1,16}\z`)

type refRun struct {
	task, worker, from, to int
	print                  api.Digest
	made                   []string // nil, if it fails
}

type refBuild struct {
	*reference
	waits   relation
	weights []int
	options api.Options
	records []api.Record
	ready   [24]bool
	runs    []refRun
	out     api.Report
	left    *api.Report // nil, if power was not lost
}

func referenceBuild(manifest string, files []api.File, log string, o api.Options) (api.Report, api.Errno) {
	r, _, e := referenceRead(manifest)
	if e != api.OK {
		return api.Report{}, e
	}
	if e := r.refuse(files, o); e != api.OK {
		return api.Report{}, e
	}
	b := refBuild{reference: r, waits: r.waits(), options: o}
	b.weights = r.weights(b.waits)
	b.out.State = make([]int, len(r.tasks))
	for _, f := range files {
		b.put(f.Path, f.Data)
	}
	var pieces []string
	b.records, pieces = referenceRecover(log)
	if whole := strings.Join(pieces, ""); whole != log {
		b.out.Log = log
		b.ahead(3, "")
	}
	b.out.Log = strings.Join(pieces, "")
	for tick := range 24*9 + 1 {
		if ended := b.endAt(tick); ended || tick == 0 {
			b.settle(tick)
			b.beginAt(tick)
		}
	}
	if b.left != nil {
		return *b.left, api.OK
	}
	return b.out, api.OK
}

// ahead tells that so many operations come, ahead of which the store and the log are as they are now; rest are bytes of the log that are not safe. There is no file but those of the store when there are such bytes: so many have lower numbers than the log.
func (b *refBuild) ahead(operations int, rest string) {
	for range operations {
		if b.out.Ops == b.options.Crash {
			if len(b.options.Keeps) == 0 {
				rest = ""
			} else if keeps := b.options.Keeps[len(b.out.Files)%len(b.options.Keeps)]; keeps < len(rest) {
				rest = rest[:keeps]
			}
			b.left = &api.Report{Files: slices.Clone(b.out.Files), Log: b.out.Log + rest, Ops: b.out.Ops}
		}
		b.out.Ops++
	}
}

func (r *reference) refuse(files []api.File, o api.Options) api.Errno {
	paths := map[string]int{}
	wrong := len(files) > 64
	for _, f := range files {
		paths[f.Path]++
		wrong = wrong || !pathName.MatchString(f.Path) || paths[f.Path] > 1
	}
	if wrong {
		return api.ErrFiles
	}
	for _, t := range r.tasks {
		for _, in := range t.inputs {
			if paths[in]+r.made[in] == 0 {
				return api.ErrInput
			}
		}
	}
	if o.Workers < 1 || o.Workers > 8 || o.Tokens < 1 || o.Tokens > 9 || o.Budget < 0 || o.Cancel < -1 || o.Crash < -1 || len(o.Keeps) > 0 && slices.Min(o.Keeps) < 0 {
		return api.ErrOption
	}
	return api.OK
}

func byPath(f api.File, path string) int { return bytes.Compare([]byte(f.Path), []byte(path)) }

func (b *refBuild) put(path, data string) {
	i, there := slices.BinarySearchFunc(b.out.Files, path, byPath)
	if there {
		b.out.Files[i].Data = data
	} else {
		b.out.Files = slices.Insert(b.out.Files, i, api.File{Path: path, Data: data})
	}
}

func (b *refBuild) get(path string) (string, bool) {
	i, there := slices.BinarySearchFunc(b.out.Files, path, byPath)
	if !there {
		return "", false
	}
	return b.out.Files[i].Data, true
}

func (b *refBuild) inputs(t refTask) (all []string, print api.Digest) {
	text := t.action + "\n"
	for _, in := range t.inputs {
		data, _ := b.get(in)
		all = append(all, data)
		text += fmt.Sprintf("%d:%s", len(data), data)
	}
	return all, mill.Sum(text)
}

func referenceMake(action string, inputs []string) (made []string) {
	all := []byte(strings.Join(inputs, ""))
	n := len(all)
	switch action {
	case "cat", "gate":
		made = []string{string(all)}
	case "rev":
		turned := make([]byte, n)
		for i, c := range all {
			turned[n-1-i] = c
		}
		made = []string{string(turned)}
	case "half":
		made = []string{string(all[:(n-n%2)/2]), string(all[(n-n%2)/2:])}
	case "count":
		made = []string{fmt.Sprint(n)}
	}
	if action == "gate" && bytes.IndexByte(all, '!') >= 0 {
		return nil
	}
	for _, data := range made {
		if len(data) > 256 {
			return nil
		}
	}
	return made
}

func (b *refBuild) note(tick, kind, task, worker, state int) {
	b.out.Events = append(b.out.Events, api.Event{Tick: tick, Kind: kind, Task: task, Worker: worker})
	if kind != api.Started {
		b.out.State[task] = state
	}
}

func (b *refBuild) endAt(tick int) (ended bool) {
	for number, t := range b.tasks {
		for _, run := range b.runs {
			if run.task != number || run.to != tick {
				continue
			}
			ended = true
			b.out.Ticks = tick
			if run.made == nil {
				b.note(tick, api.Broke, number, run.worker, api.Failed)
				continue
			}
			b.note(tick, api.Ended, number, run.worker, api.Done)
			var outs []api.Digest
			for i, path := range t.outputs {
				b.ahead(3, "")
				b.put(path, run.made[i])
				outs = append(outs, mill.Sum(run.made[i]))
			}
			b.ahead(1, "")
			b.ahead(1, made(run.print, outs...))
			b.out.Log += made(run.print, outs...)
		}
	}
	return ended
}

func (b *refBuild) settle(tick int) {
	for before := -1; before != len(b.out.Events); {
		before = len(b.out.Events)
		for number := range b.tasks {
			if b.out.State[number] != api.Left || b.ready[number] {
				continue
			}
			var waited [5]int // how many of those that it waits for stand so
			for other := range b.tasks {
				if b.waits[number][other] {
					waited[b.out.State[other]]++
				}
			}
			if waited[api.Failed]+waited[api.Skipped] > 0 {
				b.note(tick, api.SkippedIt, number, 0, api.Skipped)
			} else if waited[api.Left] > 0 {
				continue
			} else if b.upToDate(b.tasks[number]) {
				b.note(tick, api.KeptIt, number, 0, api.Kept)
			} else {
				b.ready[number] = true
			}
		}
	}
}

func (b *refBuild) upToDate(t refTask) bool {
	_, print := b.inputs(t)
	for _, r := range slices.Backward(b.records) {
		if r.Print != print {
			continue
		}
		var have []api.Digest
		for _, path := range t.outputs {
			if data, there := b.get(path); there {
				have = append(have, mill.Sum(data))
			}
		}
		return len(have) == len(t.outputs) && slices.Equal(have, r.Outs)
	}
	return false
}

func (b *refBuild) beginAt(tick int) {
	failed := 0
	for _, s := range b.out.State {
		if s == api.Failed {
			failed++
		}
	}
	if o := b.options; o.Cancel != -1 && tick >= o.Cancel || o.Budget != 0 && failed >= o.Budget {
		return
	}
	// Beginning one makes no room for another one: those in order of weight need be gone over but once.
	order := make([]int, len(b.tasks))
	for i := range order {
		order[i] = i
	}
	slices.SortStableFunc(order, func(i, j int) int { return b.weights[j] - b.weights[i] })
	for _, number := range order {
		if b.ready[number] && !b.wasBegun(number) && b.fits(number, tick) {
			b.beginOne(number, tick)
		}
	}
}

func (b *refBuild) wasBegun(number int) bool {
	return slices.ContainsFunc(b.runs, func(r refRun) bool { return r.task == number })
}

func (b *refBuild) at(tick int) (running []refRun) {
	for _, r := range b.runs {
		if r.from <= tick && tick < r.to {
			running = append(running, r)
		}
	}
	return running
}

func (b *refBuild) fits(number, tick int) bool {
	t, running := b.tasks[number], b.at(tick)
	tokens, inPool := min(t.jobs, b.options.Tokens), 0
	for _, r := range running {
		other := b.tasks[r.task]
		tokens += min(other.jobs, b.options.Tokens)
		if t.pool != "" && other.pool == t.pool {
			inPool++
		}
	}
	return len(running) < b.options.Workers && tokens <= b.options.Tokens && (t.pool == "" || inPool < b.pools[t.pool])
}

func (b *refBuild) beginOne(number, tick int) {
	var taken [8]bool
	for _, r := range b.at(tick) {
		taken[r.worker] = true
	}
	worker := slices.Index(taken[:], false)
	t := b.tasks[number]
	in, print := b.inputs(t)
	b.runs = append(b.runs, refRun{number, worker, tick, tick + t.cost, print, referenceMake(t.action, in)})
	b.note(tick, api.Started, number, worker, api.Left)
}
