// Package mill: builds files out of files, several at once: see DOC.md.
package mill

import (
	"mill/api"
	"mill/build"
	"mill/digest"
	"mill/plan"
	"mill/record"
)

// Sum is the digest of bytes (P3).
func Sum(data string) api.Digest { return digest.Sum(data) }

// Check looks a manifest over (P4).
func Check(manifest string) (int, api.Errno) {
	_, number, e := plan.Read(manifest)
	return number, e
}

// Weights tells how much work hangs on each task (P5).
func Weights(manifest string) ([]int, api.Errno) {
	p, _, e := plan.Read(manifest)
	if e != api.OK {
		return nil, e
	}
	return p.Weights(), api.OK
}

// Recover reads a log as far as it is whole (P6).
func Recover(log string) ([]api.Record, int) { return record.Read(log) }

// Compact makes a log shorter (P7).
func Compact(log string) string { return record.Compact(log) }

// Build builds (P8 to P12).
func Build(manifest string, files []api.File, log string, o api.Options) (api.Report, api.Errno) {
	return build.Run(manifest, files, log, o)
}
