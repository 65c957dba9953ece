// Package digest makes short numbers out of bytes: equal bytes have equal digests.
package digest

import "mill/api"

// Sum is the digest of the bytes of data (P3).
func Sum(data string) api.Digest {
	a, b := api.SeedA, api.SeedB
	for i := range len(data) {
		c := uint64(data[i])
		a = (a ^ c) * api.Prime
		b = (b * api.Prime) ^ c ^ (a >> 32)
	}
	return api.Digest{a, b}
}
