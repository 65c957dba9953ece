package mill_test

import (
	"slices"
	"strings"
	"testing"

	"mill/api"
	"mill/mill"
)

// rememberCase: what is built with what log, and whether that is up to date.
type rememberCase struct {
	why      string
	manifest string
	files    []api.File
	log      string
	kept     bool
}

func tryRemembered(t *testing.T, cases []rememberCase) {
	t.Helper()
	for _, c := range cases {
		r := mustBuild(t, c.manifest, c.files, c.log, with(1))
		want := []int{api.Done}
		if c.kept {
			want = []int{api.Kept}
		}
		if !slices.Equal(r.State, want) {
			t.Errorf("P9: %s: %q, %q: %v, want %v", c.why, c.manifest, c.files, r.State, want)
		}
	}
}

func TestUpToDate(t *testing.T) {
	rev, files := mill.Sum("rev\n3:xyz"), list("a", "xyz", "b", "zyx")
	right, wrong := mill.Sum("zyx"), mill.Sum("xyz")
	half, halves := mill.Sum("half\n3:xyz"), list("a", "xyz", "b", "x", "c", "yz")
	x, yz := mill.Sum("x"), mill.Sum("yz")
	odd, none := mill.Sum("cat\n"), mill.Sum("")
	const one, two = "task b = rev a", "task b c = half a"
	tryRemembered(t, []rememberCase{
		{"a record", one, files, made(rev, right), true},
		{"no record", one, files, "", false},
		{"a record of another fingerprint", one, files, made(right, right), false},
		{"a record of another action", one, files, made(mill.Sum("cat\n3:xyz"), right), false},
		{"a record of other data", one, files, made(mill.Sum("rev\n3:xyy"), right), false},
		{"a record of another digest", one, files, made(rev, wrong), false},
		{"whatever was made: the record counts", one, list("a", "xyz", "b", "odd"), made(rev, mill.Sum("odd")), true},
		{"another file there", one, list("a", "xyz", "b", "odd"), made(rev, right), false},
		{"no file there", one, list("a", "xyz"), made(rev, right), false},
		{"the last record counts: it is right", one, files, made(rev, wrong) + made(rev, right), true},
		{"the last record counts: it is wrong", one, files, made(rev, right) + made(rev, wrong), false},
		{"the last record counts: it has too many outputs", one, files, made(rev, right) + made(rev, right, right), false},
		{"the last record counts: others do not come between", one, files, made(rev, right) + made(half, x, yz) + made(odd, none), true},
		{"the last record counts, but torn it is none", one, files, made(rev, right) + made(rev, wrong)[:37], true},
		{"a record behind torn bytes", one, files, "R" + made(rev, right), false},
		{"a torn record", one, files, made(rev, right)[:37], false},
		{"a record of two outputs", two, halves, made(half, x, yz), true},
		{"its outputs the other way round", two, halves, made(half, yz, x), false},
		{"the task's outputs the other way round", "task c b = half a", halves, made(half, x, yz), false},
		{"its first output is another one", two, halves, made(half, yz, yz), false},
		{"its second output is another one", two, halves, made(half, x, x), false},
		{"its first file is not there", two, list("a", "xyz", "c", "yz"), made(half, x, yz), false},
		{"its second file is not there", two, list("a", "xyz", "b", "x"), made(half, x, yz), false},
		{"its files are other ones", two, list("a", "xyz", "b", "yz", "c", "x"), made(half, x, yz), false},
		{"a record of too few outputs", two, halves, made(half, x), false},
		{"no bytes", "task b = cat", list("b", ""), made(odd, none), true},
		{"no bytes are not no file", "task b = cat", nil, made(odd, none), false},
		{"a second one without bytes is not there", two, list("a", "", "b", ""), made(mill.Sum("half\n0:"), none, none), false},
		{"a digest of the same first number", one, files, made(rev, api.Digest{right[0], right[1] + 1}), false},
		{"a digest of the same second number", one, files, made(rev, api.Digest{right[0] + 1, right[1]}), false},
		{"a fingerprint of the same first number", one, files, made(api.Digest{rev[0], rev[1] + 1}, right), false},
		{"a fingerprint of the same second number", one, files, made(api.Digest{rev[0] + 1, rev[1]}, right), false},
		{"two digests of the same numbers, turned", one, files, made(rev, api.Digest{right[1], right[0]}), false},
		{"the fingerprint's numbers turned", one, files, made(api.Digest{rev[1], rev[0]}, right), false},
	})
}

// The text of a fingerprint, byte by byte: with another one nothing is kept.
func TestFingerprints(t *testing.T) {
	long := strings.Repeat("x", 130)
	for _, c := range []struct {
		manifest, text, data string
		files                []api.File
	}{
		{"task y = cat", "cat\n", "", nil},
		{"task y = cat a", "cat\n0:", "", list("a", "")},
		{"task y = cat a b", "cat\n1:12:23", "123", list("a", "1", "b", "23")},
		{"task y = cat b a", "cat\n2:231:1", "231", list("a", "1", "b", "23")},
		{"task y = cat a a a a", "cat\n1:11:11:11:1", "1111", list("a", "1")},
		{"task y = cat a b", "cat\n3:1:20:", "1:2", list("a", "1:2", "b", "")},
		{"task y = count a b", "count\n130:" + long + "2:\x00\n", "132", list("a", long, "b", "\x00\n")},
		{"task y = gate a | cost 9 jobs 9", "gate\n2:\xff\x00", "\xff\x00", list("a", "\xff\x00")},
		{"task y = rev a", "rev\n2:é", "\xa9\xc3", list("a", "é")},
	} {
		first := mustBuild(t, c.manifest, c.files, "", with(1))
		want := made(mill.Sum(c.text), mill.Sum(c.data))
		if first.Log != want {
			t.Errorf("P9: %q of %q: the log is %x, want %x", c.manifest, c.files, first.Log, want)
		}
		if again := mustBuild(t, c.manifest, first.Files, want, with(1)); !slices.Equal(again.State, []int{api.Kept}) {
			t.Errorf("P9: %q of %q: %v", c.manifest, c.files, again.State)
		}
	}
	two := mustBuild(t, "task y z = half a", list("a", "12345"), "", with(1))
	if two.Log != made(mill.Sum("half\n5:12345"), mill.Sum("12"), mill.Sum("345")) || two.Ops != 8 {
		t.Errorf("P9: half: %x, %d operations", two.Log, two.Ops)
	}
}

// A file that changes: just what hangs on it is made again, as far as it comes out otherwise.
func TestMadeAgain(t *testing.T) {
	m := text("task b = rev a", "task c d = half b", "task e = cat d", "task f = count s", "task g = rev f")
	first := mustBuild(t, m, list("a", "12345", "s", "xyz"), "", with(2))
	change := func(path, data string) []api.File {
		files := slices.Clone(first.Files)
		for i := range files {
			if files[i].Path == path {
				files[i].Data = data
			}
		}
		return files
	}
	for _, c := range []struct {
		why   string
		files []api.File
		story string
	}{
		{"nothing", first.Files, "0:kept 0, 0:kept 1, 0:kept 2, 0:kept 3, 0:kept 4"},
		{"a source", change("a", "54321"), "0:kept 3, 0:kept 4, 0:started 0 by 0, 1:ended 0 by 0, 1:started 1 by 0, 2:ended 1 by 0, 2:started 2 by 0, 3:ended 2 by 0"},
		{"a source, but what is made of it is the same", change("s", "abc"), "0:kept 0, 0:kept 1, 0:kept 2, 0:started 3 by 0, 1:ended 3 by 0, 1:kept 4"},
		{"what was made first", change("b", ""), "0:kept 3, 0:kept 4, 0:started 0 by 0, 1:ended 0 by 0, 1:kept 1, 1:kept 2"},
		{"what was made on the way", change("d", "x"), "0:kept 0, 0:kept 3, 0:kept 4, 0:started 1 by 0, 1:ended 1 by 0, 1:kept 2"},
		{"what was made last", change("e", "543"), "0:kept 0, 0:kept 1, 0:kept 3, 0:kept 4, 0:started 2 by 0, 1:ended 2 by 0"},
	} {
		if r := mustBuild(t, m, c.files, first.Log, with(1)); story(r.Events) != c.story {
			t.Errorf("P9: %s is another one: %s, want %s", c.why, story(r.Events), c.story)
		}
	}
}

// What this build makes is not remembered: d would be up to date by the record of b, which is of the same fingerprint.
func TestNotRememberedYet(t *testing.T) {
	m := text("task b = cat a", "task c = cat b", "task d = cat c")
	r := mustBuild(t, m, list("a", "x", "d", "x"), "", with(1))
	if story(r.Events) != "0:started 0 by 0, 1:ended 0 by 0, 1:started 1 by 0, 2:ended 1 by 0, 2:started 2 by 0, 3:ended 2 by 0" {
		t.Errorf("P9: %s", story(r.Events))
	}
	if want := strings.Repeat(made(mill.Sum("cat\n1:x"), mill.Sum("x")), 3); r.Log != want {
		t.Errorf("P11: %x, want %x", r.Log, want)
	}
}

// Who waits for one that failed is skipped, up to date or not.
func TestSkippedThoughUpToDate(t *testing.T) {
	m := text("task b = gate a", "task c = cat s b")
	in := list("a", "no!", "b", "fine", "c", "sfine", "s", "s")
	log := made(mill.Sum("cat\n1:s4:fine"), mill.Sum("sfine"))
	if r := mustBuild(t, m, in, log, with(1)); !slices.Equal(r.State, []int{api.Failed, api.Skipped}) || !slices.Equal(r.Files, in) || r.Log != log {
		t.Errorf("P10: %s", show(r))
	}
}

// A task that failed is tried again and again: it left no record.
func TestFailedIsNotRemembered(t *testing.T) {
	m := text("task b = gate a", "task c = cat s")
	first := mustBuild(t, m, list("a", "no!", "s", "s"), "", with(1))
	again := mustBuild(t, m, first.Files, first.Log, with(1))
	if story(again.Events) != "0:kept 1, 0:started 0 by 0, 1:broke 0 by 0" || again.Log != first.Log || again.Ops != 0 {
		t.Errorf("P9: %s, %d operations", story(again.Events), again.Ops)
	}
}

func TestTornLog(t *testing.T) {
	rev, cat := made(mill.Sum("rev\n3:xyz"), mill.Sum("zyx")), made(mill.Sum("cat\n3:zyx"), mill.Sum("zyx"))
	m := text("task b = rev a", "task c = cat b")
	in, all := list("a", "xyz"), list("a", "xyz", "b", "zyx", "c", "zyx")
	for _, c := range []struct {
		why, manifest    string
		files            []api.File
		log, want, story string
		operations       int
	}{
		{"torn, and nothing to build", "", in, "torn", "", "", 3},
		{"a whole record ahead of torn bytes, and nothing to build", "", in, rev + "torn", rev, "", 3},
		{"whole, and nothing to build", "", in, rev + cat + rev, rev + cat + rev, "", 0},
		{"no log, and nothing to build", "", in, "", "", "", 0},
		{"torn at once", m, in, "R", rev + cat, "0:started 0 by 0, 1:ended 0 by 0, 1:started 1 by 0, 2:ended 1 by 0", 13},
		{"whole", m, all, rev + cat, rev + cat, "0:kept 0, 0:kept 1", 0},
		{"torn behind what is kept", m, all, rev + cat + "\x00", rev + cat, "0:kept 0, 0:kept 1", 3},
		{"the last record is torn", m, all, rev + cat[:37], rev + cat, "0:kept 0, 0:started 1 by 0, 1:ended 1 by 0", 8},
		{"the first record is torn", m, all, rev[1:] + cat, rev + cat, "0:started 0 by 0, 1:ended 0 by 0, 1:started 1 by 0, 2:ended 1 by 0", 13},
		{"records come behind, none is left out", m, in, cat + cat + cat[:5], cat + cat + rev + cat, "0:started 0 by 0, 1:ended 0 by 0, 1:started 1 by 0, 2:ended 1 by 0", 13},
		{"records come behind a whole log", m, in, cat + cat, cat + cat + rev + cat, "0:started 0 by 0, 1:ended 0 by 0, 1:started 1 by 0, 2:ended 1 by 0", 10},
	} {
		r := mustBuild(t, c.manifest, c.files, c.log, with(1))
		if r.Log != c.want || r.Ops != c.operations || story(r.Events) != c.story {
			t.Errorf("P9: %s: %d operations, %s, log %x, want %d, %s, %x", c.why, r.Ops, story(r.Events), r.Log, c.operations, c.story, c.want)
		}
	}
	o := with(1)
	o.Cancel = 0
	if r := mustBuild(t, m, in, rev+"torn", o); r.Ops != 3 || r.Log != rev || len(r.Events) != 0 {
		t.Errorf("P9: the log is mended though nothing is begun: %s", show(r))
	}
}
