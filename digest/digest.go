// Package digest makes short numbers out of bytes: equal bytes have equal digests.
package digest

import (
	"cmp"

	"mill/api"
)

// Sum is the digest of the bytes of data (P3).
func Sum(data string) api.Digest {
	a, b := api.SeedA, api.SeedB
	for i := range len(data) {
		c := uint64(data[i])
		a = (a ^ c) * api.Prime
		b = (b * api.Prime) ^ c ^ (a >> 32)
	}
	return api.Digest{a, b}
}

// Compare puts digests in order, by their first numbers, then by the second ones: below 0, if a comes ahead of b, above 0, if behind.
func Compare(a, b api.Digest) int {
	return cmp.Or(cmp.Compare(a[0], b[0]), cmp.Compare(a[1], b[1]))
}
