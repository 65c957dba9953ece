package record

import (
	"maps"
	"slices"
	"strings"

	"mill/api"
	"mill/digest"
)

// Read reads the records of a log as long as there is a whole and right one, and tells how many bytes these have (P6).
func Read(log string) ([]api.Record, int) {
	var all []api.Record
	at := 0
	for {
		r, size := first(log[at:])
		if size == 0 {
			return all, at
		}
		all = append(all, r)
		at += size
	}
}

// Latest has of each fingerprint the last record.
func Latest(all []api.Record) map[api.Digest]api.Record {
	latest := make(map[api.Digest]api.Record, len(all))
	for _, r := range all {
		latest[r.Print] = r
	}
	return latest
}

// Compact is a log of the last record of each fingerprint, in rising order of these (P7).
func Compact(log string) string {
	all, _ := Read(log)
	latest := Latest(all)
	var out strings.Builder
	for _, fingerprint := range slices.SortedFunc(maps.Keys(latest), digest.Compare) {
		out.WriteString(Bytes(latest[fingerprint]))
	}
	return out.String()
}
