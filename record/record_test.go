package record

import (
	"slices"
	"testing"

	"mill/api"
)

func TestBytesAreReadBack(t *testing.T) {
	a, b, c := api.Digest{0, 1 << 63}, api.Digest{1<<64 - 1, 0x0123456789abcdef}, api.Digest{7, 8}
	for _, r := range []api.Record{{Print: a, Outs: []api.Digest{b}}, {Print: b, Outs: []api.Digest{c, a}}, {Print: c, Outs: []api.Digest{c, c}}} {
		log := Bytes(r)
		if want := 22 + 16*len(r.Outs); len(log) != want {
			t.Errorf("a record of %d outputs has %d bytes, want %d", len(r.Outs), len(log), want)
		}
		all, n := Read(log)
		if n != len(log) || len(all) != 1 || all[0].Print != r.Print || !slices.Equal(all[0].Outs, r.Outs) {
			t.Errorf("Read(Bytes(%x)) = %x, %d", r, all, n)
		}
	}
}

// No record has so many outputs; nobody takes the bytes of one that has for a record.
func TestOtherNumbersOfOutputsAreNotReadBack(t *testing.T) {
	for _, outs := range []int{0, 3, 4, 255, 256, 257} {
		if all, n := Read(Bytes(api.Record{Outs: make([]api.Digest, outs)})); n != 0 || len(all) != 0 {
			t.Errorf("of %d outputs: %x, %d", outs, all, n)
		}
	}
}

func TestLatest(t *testing.T) {
	a, b, c := api.Digest{1, 2}, api.Digest{1, 3}, api.Digest{2, 2}
	got := Latest([]api.Record{
		{Print: a, Outs: []api.Digest{a}},
		{Print: b, Outs: []api.Digest{b}},
		{Print: a, Outs: []api.Digest{b, c}},
		{Print: a, Outs: []api.Digest{c}},
	})
	if len(got) != 2 || !slices.Equal(got[a].Outs, []api.Digest{c}) || !slices.Equal(got[b].Outs, []api.Digest{b}) {
		t.Errorf("Latest = %x", got)
	}
	if got := Latest(nil); len(got) != 0 {
		t.Errorf("Latest of none = %x", got)
	}
}
