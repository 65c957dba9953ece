package mill_test

import (
	"strings"
	"testing"

	"mill/api"
	"mill/mill"
)

func TestSum(t *testing.T) {
	all := make([]byte, 256)
	for i := range all {
		all[i] = byte(i)
	}
	for _, c := range []struct {
		data string
		want api.Digest
	}{
		{"", api.Digest{0xcbf29ce484222325, 0x84222325cbf29ce4}},
		{"a", api.Digest{0xaf63dc4c8601ec8c, 0x789e9d3922234b41}},
		{"\x00", api.Digest{0xaf63bd4c8601b7df, 0x789e9d3922232a20}},
		{"\xff", api.Digest{0xaf64724c8602eb6e, 0x789e9d392224e5df}},
		{"xyz", api.Digest{0xbff4aa198026f420, 0x22b399c1de47f461}},
		{"zyx", api.Digest{0xce840219879d1d4c, 0x39ef99c1406adfd1}},
		{"\xc3\xa4\n", api.Digest{0x5fda2b1c1dec9618, 0x662deec7c40d6d38}},
		{string(all), api.Digest{0x4242dc5249c33625, 0xb5a9686ceb4d1d2b}},
		{strings.Repeat("mill", 1000), api.Digest{0xd0997d094828d235, 0x9046ca136c3a082d}},
	} {
		if got := mill.Sum(c.data); got != c.want {
			t.Errorf("P3: Sum(%.20q) = %x, want %x", c.data, got, c.want)
		}
	}
}
