package mill_test

import (
	"bytes"
	"encoding/binary"
	"hash/fnv"
	"slices"
	"strings"

	"mill/api"
)

// A second reading of P6 and P7, by other means than the program's: the library reads the numbers and works out the seal (the first number of a Sum is FNV-1a's), nothing is a map, and order is that of bytes.

func referenceSeal(body []byte) uint32 {
	h := fnv.New64a()
	h.Write(body)
	return uint32(h.Sum64() >> 32)
}

// referenceFirst reads one record; there is none if ok is false.
func referenceFirst(log string) (r api.Record, size int, ok bool) {
	var head struct {
		Mark, Outs byte
		Print      api.Digest
	}
	in := bytes.NewReader([]byte(log))
	if binary.Read(in, binary.BigEndian, &head) != nil || string(head.Mark) != "R" || !slices.Contains([]byte{1, 2}, head.Outs) {
		return r, 0, false
	}
	outs := make([]api.Digest, head.Outs)
	if binary.Read(in, binary.BigEndian, outs) != nil {
		return r, 0, false
	}
	body := len(log) - in.Len()
	var seal uint32
	if binary.Read(in, binary.BigEndian, &seal) != nil || seal != referenceSeal([]byte(log[:body])) {
		return r, 0, false
	}
	return api.Record{Print: head.Print, Outs: outs}, len(log) - in.Len(), true
}

func referenceRecover(log string) (all []api.Record, pieces []string) {
	for {
		r, size, ok := referenceFirst(log)
		if !ok {
			return all, pieces
		}
		all, pieces = append(all, r), append(pieces, log[:size])
		log = log[size:]
	}
}

// referenceCompact keeps the pieces of the log as they are: those that no later one has the fingerprint of.
func referenceCompact(log string) string {
	print := func(piece string) string { return piece[2:18] }
	_, pieces := referenceRecover(log)
	var kept []string
	for i, piece := range pieces {
		later := func(other string) bool { return print(other) == print(piece) }
		if !slices.ContainsFunc(pieces[i+1:], later) {
			kept = append(kept, piece)
		}
	}
	slices.SortFunc(kept, func(a, b string) int { return strings.Compare(print(a), print(b)) })
	return strings.Join(kept, "")
}
