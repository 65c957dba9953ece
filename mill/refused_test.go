package mill_test

import (
	"fmt"
	"math"
	"reflect"
	"strings"
	"testing"

	"mill/api"
	"mill/mill"
)

// wrongOption: one option that may not be, all others may.
func wrongOptions() (all []api.Options) {
	change := func(f func(o *api.Options)) {
		o := with(1)
		f(&o)
		all = append(all, o)
	}
	for _, n := range []int{math.MinInt, -1, 0, 9, math.MaxInt} {
		change(func(o *api.Options) { o.Workers = n })
	}
	for _, n := range []int{math.MinInt, -1, 0, 10, math.MaxInt} {
		change(func(o *api.Options) { o.Tokens = n })
	}
	for _, n := range []int{math.MinInt, -2, -1} {
		change(func(o *api.Options) { o.Budget = n })
	}
	for _, n := range []int{math.MinInt, -3, -2} {
		change(func(o *api.Options) { o.Cancel = n })
		change(func(o *api.Options) { o.Crash = n })
	}
	for _, keeps := range [][]int{{-1}, {math.MinInt}, {0, 5, -1}, {-1, 3}} {
		change(func(o *api.Options) { o.Keeps = keeps })
	}
	return append(all, api.Options{})
}

func rightOptions() (all []api.Options) {
	for _, o := range []api.Options{with(1), with(8)} {
		few := o
		few.Tokens, few.Budget, few.Cancel, few.Crash = 1, 1, 0, 0
		many := o
		many.Tokens, many.Budget, many.Cancel, many.Crash, many.Keeps = 9, math.MaxInt, math.MaxInt, math.MaxInt, []int{0, 1, math.MaxInt}
		none := o
		none.Keeps = []int{}
		all = append(all, o, few, many, none)
	}
	return all
}

// filled is files, and more of them up to a number.
func filled(n int, files []api.File) []api.File {
	for i := len(files); i < n; i++ {
		files = append(files, api.File{Path: fmt.Sprintf("g%d", i)})
	}
	return files
}

func wrongFiles() [][]api.File {
	long := strings.Repeat("a", 17)
	return [][]api.File{
		filled(65, list("a", "")),
		filled(1000, list("a", "")),
		list("a", "", "", ""),
		list("a", "", "A", ""),
		list("~", "", "a", ""),
		list("a", "", "a~", ""),
		list("a", "", "a b", ""),
		list("a", "", "a/b", ""),
		list("a", "", "a\n", ""),
		list("a", "", "é", ""),
		list("a", "", long, ""),
		list("a", "", "a", ""),
		list("a", "1", "b", "", "a", "2"),
		append(filled(63, list("a", "")), api.File{Path: "g62"}),
	}
}

func rightFiles() [][]api.File {
	return [][]api.File{
		list("a", ""),
		list("a", "", "b", "an output", "zz", ""),
		list("a", strings.Repeat("\x00\xff", 5000)),
		list("a", "", strings.Repeat("a", 16), "", ".", "", "_", "", "0", ""),
		filled(64, list("a", "")),
	}
}

// A manifest, the files, the inputs, the options: whatever is wrong behind the first that is wrong, its error is the answer.
func TestErrorNamedFirst(t *testing.T) {
	manifests := []struct {
		manifest string
		errno    api.Errno
	}{
		{text("task b = rev a", "task c d = half b"), api.OK},
		{text("task b = rev a", "task c d = half x"), api.ErrInput},
		{text("task b = cat a x"), api.ErrInput},
		{strings.Repeat("#", 2001), api.ErrLong},
		{"task b = rev a |", api.ErrLine},
		{"task b = rev a x", api.ErrAction},
		{"task b = rev a | pool p", api.ErrPool},
		{text("task b = rev x", "task b = cat"), api.ErrTwice},
		{text("task b = cat x c", "task c = rev b"), api.ErrCycle},
	}
	type fileCase struct {
		files []api.File
		right bool
	}
	var files []fileCase
	for _, f := range wrongFiles() {
		files = append(files, fileCase{f, false})
	}
	for _, f := range rightFiles() {
		files = append(files, fileCase{f, true})
	}
	type optionCase struct {
		options api.Options
		right   bool
	}
	var options []optionCase
	for _, o := range wrongOptions() {
		options = append(options, optionCase{o, false})
	}
	for _, o := range rightOptions() {
		options = append(options, optionCase{o, true})
	}
	for _, m := range manifests {
		for _, f := range files {
			for _, o := range options {
				want := m.errno
				if want == api.OK && !o.right {
					want = api.ErrOption
				}
				if (want == api.OK || want == api.ErrInput || want == api.ErrOption) && !f.right {
					want = api.ErrFiles
				}
				r, e := mill.Build(m.manifest, f.files, "torn", o.options)
				if e != want {
					t.Errorf("P8: Build(%.60q, %.200q, %+v) has error %d, want %d", m.manifest, f.files, o.options, e, want)
				}
				if e != api.OK && !reflect.DeepEqual(r, api.Report{}) {
					t.Errorf("P1: Build(%.60q, %.200q, %+v) = %+v with error %d", m.manifest, f.files, o.options, r, e)
				}
			}
		}
	}
}

func TestInputsThatAreThere(t *testing.T) {
	for _, c := range []struct {
		manifest string
		files    []api.File
		errno    api.Errno
	}{
		{"", nil, api.OK},
		{"task b = cat", nil, api.OK},
		{"task b = rev a", nil, api.ErrInput},
		{"task b = rev a", list("b", ""), api.ErrInput},
		{"task b = rev a", list("aa", ""), api.ErrInput},
		{"task b = rev a", list("a", ""), api.OK},
		{text("task b = rev c", "task c = cat"), nil, api.OK},
		{text("task c = cat", "task b = rev c"), nil, api.OK},
		{text("task c d = half a", "task b = cat d c"), list("a", ""), api.OK},
		{text("task c d = half a", "task b = cat d c e"), list("a", ""), api.ErrInput},
		{text("# task b = rev x", "task b = rev a"), list("a", ""), api.OK},
		{text("pool p 1", "task b = rev p | pool p"), nil, api.ErrInput},
		{"task b = cat a a a x", list("a", ""), api.ErrInput},
		{"task b = cat x a a a", list("a", ""), api.ErrInput},
		{"task b = count rev", list("a", ""), api.ErrInput},
		// an input that is a file and an output is the output
		{text("task b = rev a", "task a = cat"), list("a", "xyz"), api.OK},
	} {
		if _, e := mill.Build(c.manifest, c.files, "", with(1)); e != c.errno {
			t.Errorf("P8: Build(%q, %q) has error %d, want %d", c.manifest, c.files, e, c.errno)
		}
	}
}
