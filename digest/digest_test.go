package digest

import (
	"math/big"
	"testing"

	"mill/api"
)

// slowSum works P3 out in whole numbers without bounds, and takes the remainder at each step.
func slowSum(data string) api.Digest {
	whole := func(n uint64) *big.Int { return new(big.Int).SetUint64(n) }
	bound := new(big.Int).Lsh(big.NewInt(1), 64)
	prime := whole(0x100000001b3)
	a, b := whole(0xcbf29ce484222325), whole(0x84222325cbf29ce4)
	for _, c := range []byte(data) {
		n := whole(uint64(c))
		a.Xor(a, n)
		a.Mod(a.Mul(a, prime), bound)
		b.Mod(b.Mul(b, prime), bound)
		b.Xor(b, n)
		b.Xor(b, new(big.Int).Rsh(a, 32))
	}
	return api.Digest{a.Uint64(), b.Uint64()}
}

func TestSumAgainstWholeNumbers(t *testing.T) {
	data := ""
	for i := range 600 {
		if got, want := Sum(data), slowSum(data); got != want {
			t.Fatalf("P3: Sum(%q) = %x, want %x", data, got, want)
		}
		data += string([]byte{byte(i * 89)})
	}
}

func TestSumTellsTextsApart(t *testing.T) {
	texts := map[api.Digest]string{}
	note := func(text string) {
		if other, there := texts[Sum(text)]; there {
			t.Errorf("P3: %q and %q have one digest", text, other)
		}
		texts[Sum(text)] = text
	}
	note("")
	for i := range 256 {
		note(string([]byte{byte(i)}))
		for j := range 256 {
			note(string([]byte{byte(i), byte(j)}))
		}
	}
}

func TestCompare(t *testing.T) {
	rising := []api.Digest{{0, 0}, {0, 1}, {0, 1<<64 - 1}, {1, 0}, {1, 1 << 63}, {1<<63 - 1, 5}, {1 << 63, 0}, {1 << 63, 4}, {1<<64 - 1, 0}, {1<<64 - 1, 1<<64 - 1}}
	for i, a := range rising {
		for j, b := range rising {
			got := Compare(a, b)
			if (got < 0) != (i < j) || (got > 0) != (i > j) {
				t.Errorf("P7: Compare(%x, %x) = %d", a, b, got)
			}
		}
	}
}
