// Package record reads and writes logs: what was made out of what.
package record

import (
	"mill/api"
	"mill/digest"
)

const (
	mark       = 'R'
	headSize   = 2 // the mark, and how many outputs
	numberSize = 8
	digestSize = 2 * numberSize
	sealSize   = 4
	maxOuts    = 2
)

// Bytes is a record as it stands in a log.
func Bytes(r api.Record) string {
	b := []byte{mark, byte(len(r.Outs))}
	b = appendDigest(b, r.Print)
	for _, d := range r.Outs {
		b = appendDigest(b, d)
	}
	return string(appendNumber(b, uint64(seal(string(b))), sealSize))
}

// first reads the record at the beginning of a log, and tells its size: 0, if no whole and right one is there.
func first(log string) (api.Record, int) {
	outs := outsOf(log)
	body := headSize + digestSize*(1+outs)
	size := body + sealSize
	if outs == 0 || len(log) < size {
		return api.Record{}, 0
	}
	if readNumber(log[body:size]) != uint64(seal(log[:body])) {
		return api.Record{}, 0
	}
	r := api.Record{Print: digestAt(log, 0), Outs: make([]api.Digest, outs)}
	for i := range r.Outs {
		r.Outs[i] = digestAt(log, 1+i)
	}
	return r, size
}

// outsOf tells how many outputs the record at the beginning of a log has: 0, if its head is none.
func outsOf(log string) int {
	if len(log) < headSize || log[0] != mark || log[1] > maxOuts {
		return 0
	}
	return int(log[1])
}

// seal is the number that tells a record from one that is torn.
func seal(body string) uint32 { return uint32(digest.Sum(body)[0] >> 32) }

// digestAt reads the digest at a place of a record: the fingerprint is at 0, the outputs behind it.
func digestAt(log string, place int) api.Digest {
	at := headSize + digestSize*place
	middle, end := at+numberSize, at+digestSize
	return api.Digest{readNumber(log[at:middle]), readNumber(log[middle:end])}
}

func readNumber(bytes string) uint64 {
	n := uint64(0)
	for i := range len(bytes) {
		n = n<<8 | uint64(bytes[i])
	}
	return n
}

func appendDigest(b []byte, d api.Digest) []byte {
	for _, n := range d {
		b = appendNumber(b, n, numberSize)
	}
	return b
}

// appendNumber lays the lowest bytes of a number behind others, the high one first.
func appendNumber(b []byte, n uint64, size int) []byte {
	for i := size - 1; i >= 0; i-- {
		b = append(b, byte(n>>(8*i)))
	}
	return b
}
