package mill_test

import (
	"encoding/binary"
	"math"
	"slices"
	"strings"
	"sync"
	"testing"

	"mill/api"
	"mill/mill"
)

// sealed lays behind any bytes the 4 that make a record whole.
func sealed(body string) string {
	return string(binary.BigEndian.AppendUint32([]byte(body), referenceSeal([]byte(body))))
}

// row is a record as bytes, with any mark and any number of outputs.
func row(mark string, outs byte, digests ...api.Digest) string {
	b := append([]byte(mark), outs)
	for _, d := range digests {
		b = binary.BigEndian.AppendUint64(b, d[0])
		b = binary.BigEndian.AppendUint64(b, d[1])
	}
	return sealed(string(b))
}

// made is a right record as bytes.
func made(print api.Digest, outs ...api.Digest) string {
	return row("R", byte(len(outs)), append([]api.Digest{print}, outs...)...)
}

func sameRecord(a, b api.Record) bool {
	return a.Print == b.Print && slices.Equal(a.Outs, b.Outs)
}

func sameRecords(a, b []api.Record) bool { return slices.EqualFunc(a, b, sameRecord) }

// tryRecover asks for just these records, and their bytes.
func tryRecover(t *testing.T, log string, want []api.Record, bytes int) {
	t.Helper()
	if got, n := mill.Recover(log); n != bytes || !sameRecords(got, want) {
		t.Errorf("P6: Recover(%x) = %x, %d, want %x, %d", log, got, n, want, bytes)
	}
}

func tryCompact(t *testing.T, log, want string) {
	t.Helper()
	if got := mill.Compact(log); got != want {
		t.Errorf("P7: Compact(%x) = %x, want %x", log, got, want)
	}
}

// compareLog holds the program against the second reading.
func compareLog(t *testing.T, log string) {
	t.Helper()
	want, pieces := referenceRecover(log)
	tryRecover(t, log, want, len(strings.Join(pieces, "")))
	tryCompact(t, log, referenceCompact(log))
}

// three records, of one output, of two and of one; where each ends.
func threeRecords() (all []api.Record, log string, ends []int) {
	all = []api.Record{
		{Print: api.Digest{0x0102030405060708, 0x090a0b0c0d0e0f10}, Outs: []api.Digest{{0xf1f2f3f4f5f6f7f8, 0xf9fafbfcfdfeff00}}},
		{Print: api.Digest{0, 0}, Outs: []api.Digest{{1 << 63, 1}, {math.MaxUint64, 2}}},
		{Print: api.Digest{7, 1 << 63}, Outs: []api.Digest{{0, 0}}},
	}
	for _, r := range all {
		log += made(r.Print, r.Outs...)
		ends = append(ends, len(log))
	}
	return all, log, ends
}

// The bytes of these two are written out here; no code of the program or of these tests made them.
func TestRecordsByteByByte(t *testing.T) {
	one := "\x52\x01" +
		"\x01\x02\x03\x04\x05\x06\x07\x08\x09\x0a\x0b\x0c\x0d\x0e\x0f\x10" +
		"\xf1\xf2\xf3\xf4\xf5\xf6\xf7\xf8\xf9\xfa\xfb\xfc\xfd\xfe\xff\x00" +
		"\x36\xf9\x91\x7c"
	two := "\x52\x02" + strings.Repeat("\x00", 16) +
		"\x80\x00\x00\x00\x00\x00\x00\x00\x00\x00\x00\x00\x00\x00\x00\x01" +
		"\xff\xff\xff\xff\xff\xff\xff\xff\x00\x00\x00\x00\x00\x00\x00\x02" +
		"\xcc\x53\x2a\x1c"
	all, _, _ := threeRecords()
	tryRecover(t, one, all[:1], 38)
	tryRecover(t, two, all[1:2], 54)
	tryRecover(t, one+two, all[:2], 92)
	tryCompact(t, one+two, two+one)
}

func TestEmptyLog(t *testing.T) {
	tryRecover(t, "", nil, 0)
	tryCompact(t, "", "")
}

func TestLogsOfOneAndOfSeveralRecords(t *testing.T) {
	all, log, ends := threeRecords()
	for i := range all {
		tryRecover(t, log[:ends[i]], all[:i+1], ends[i])
	}
	tryRecover(t, log[ends[0]:], all[1:], ends[2]-ends[0])
	tryRecover(t, log+log, slices.Concat(all, all), 2*ends[2])
}

func TestTornAtEachByte(t *testing.T) {
	all, log, ends := threeRecords()
	for cut := range len(log) {
		whole, bytes := 0, 0
		for whole < len(ends) && ends[whole] <= cut {
			bytes = ends[whole]
			whole++
		}
		tryRecover(t, log[:cut], all[:whole], bytes)
		tryCompact(t, log[:cut], mill.Compact(log[:bytes]))
		for _, more := range []string{"\x00", "R", "R\x01", "\xff\xff", strings.Repeat("R", 60), strings.Repeat("\x00", 60)} {
			tryRecover(t, log[:bytes]+more, all[:whole], bytes)
		}
	}
}

// With any bit of a record turned, neither it nor what is behind it is read.
func TestEachBitTurned(t *testing.T) {
	all, log, ends := threeRecords()
	from := 0
	for i, end := range ends {
		for at := from; at < end; at++ {
			for bit := range 8 {
				b := []byte(log)
				b[at] ^= 1 << bit
				tryRecover(t, string(b), all[:i], from)
			}
		}
		from = end
	}
}

// These have the right 4 bytes at their ends (or nearly so), but something else is wrong.
func TestSealedButWrong(t *testing.T) {
	d := api.Digest{5, 6}
	wrong := []string{
		// a number of outputs that may not be
		row("R", 0, d), row("R", 0, d, d), row("R", 0), row("R", 3, d, d, d, d), row("R", 4, d, d, d, d, d), row("R", 3, d, d), row("R", 255, d, d), row("R", '1', d, d), row("R", '2', d, d, d), row("R", 0x81, d, d),
		// a number of outputs that is not that of the digests
		row("R", 1, d), row("R", 2, d, d), row("R", 1, d, d, d), row("R", 2, d), row("R", 2, d, d, d, d),
		// a mark that is none
		row("r", 1, d, d), row("r", 2, d, d, d), row("", 1, d, d), row("S", 1, d, d), row("\x00", 1, d, d), row("\xff", 2, d, d, d), row(" R", 1, d, d), row("RR", 1, d, d),
		// too short, or at a wrong place
		sealed(""), sealed("R"), sealed("R\x01"), sealed("R\x02"), sealed(made(d, d)[:33]), made(d, d)[1:], "\n" + made(d, d), "x" + made(d, d),
	}
	all, log, ends := threeRecords()
	for _, w := range wrong {
		tryRecover(t, w, nil, 0)
		tryRecover(t, w+log, nil, 0)
		tryRecover(t, log+w, all, ends[2])
		tryRecover(t, log+w+log, all, ends[2])
		tryCompact(t, w+log, "")
		tryCompact(t, log+w+log, mill.Compact(log))
	}
}

// The last 4 bytes are the upper half of the first number, the high byte first, and nothing else.
func TestOtherSeals(t *testing.T) {
	body := made(api.Digest{1, 2}, api.Digest{3, 4})[:34]
	sum := mill.Sum(body)
	high, low := uint32(sum[0]>>32), uint32(sum[0])
	right := []api.Record{{Print: api.Digest{1, 2}, Outs: []api.Digest{{3, 4}}}}
	tryRecover(t, body+string(binary.BigEndian.AppendUint32(nil, high)), right, 38)
	tryRecover(t, body+string(binary.BigEndian.AppendUint64(nil, sum[0])), right, 38)
	tryRecover(t, body+string(binary.LittleEndian.AppendUint32(nil, high)), nil, 0)
	for _, n := range []uint32{low, uint32(sum[1]), uint32(sum[1] >> 32), high ^ low, high + 1, high - 1, ^high, 0, math.MaxUint32} {
		tryRecover(t, body+string(binary.BigEndian.AppendUint32(nil, n)), nil, 0)
	}
}

func TestLastOfEachFingerprint(t *testing.T) {
	p, q := api.Digest{3, 9}, api.Digest{3, 10}
	a, b, c := api.Digest{1, 1}, api.Digest{2, 2}, api.Digest{3, 3}
	for _, try := range []struct{ log, want string }{
		{made(p, a), made(p, a)},
		{made(p, a, b), made(p, a, b)},
		{made(p, a) + made(p, a), made(p, a)},
		{made(p, a) + made(p, b), made(p, b)},
		{made(p, b) + made(p, a), made(p, a)},
		{made(p, c) + made(p, a) + made(p, b), made(p, b)},
		{made(p, a) + made(p, b) + made(p, a), made(p, a)},
		{made(p, a) + made(p, b, c), made(p, b, c)},
		{made(p, b, c) + made(p, a), made(p, a)},
		{made(p, b, c) + made(p, c, b), made(p, c, b)},
		{made(q, a) + made(p, a), made(p, a) + made(q, a)},
		{made(q, a) + made(p, b) + made(q, c) + made(p, a, a), made(p, a, a) + made(q, c)},
		// the second one of these is torn, and who is behind it counts no more
		{made(p, a) + made(p, b)[:37], made(p, a)},
		{made(p, a) + made(p, b)[:37] + made(p, c), made(p, a)},
		{made(p, a) + made(p, b)[1:] + made(q, c), made(p, a)},
		{"x" + made(p, a), ""},
	} {
		tryCompact(t, try.log, try.want)
	}
}

// Records that differ in their fingerprints alone stay, all of them.
func TestOrderOfFingerprints(t *testing.T) {
	numbers := []uint64{0, 1, 2, 0xff, 0x100, 1<<32 - 1, 1 << 32, 1<<63 - 1, 1 << 63, 1<<63 + 1, 1<<64 - 2, 1<<64 - 1}
	var rising []string
	for _, first := range numbers {
		for _, second := range numbers {
			rising = append(rising, made(api.Digest{first, second}, api.Digest{second, first}))
		}
	}
	want := strings.Join(rising, "")
	tryCompact(t, want, want)
	slices.Reverse(rising)
	tryCompact(t, strings.Join(rising, ""), want)
	k := newMaker()
	for range 20 {
		k.Shuffle(len(rising), func(i, j int) { rising[i], rising[j] = rising[j], rising[i] })
		tryCompact(t, strings.Join(rising, ""), want)
		tryCompact(t, strings.Join(rising[:70], "")+strings.Join(rising, ""), want)
	}
}

// digest takes few numbers, so that fingerprints come again.
func (k maker) digest() api.Digest {
	numbers := []uint64{0, 1, 2, 1 << 63, 1<<64 - 1}
	return api.Digest{numbers[k.IntN(5)], numbers[k.IntN(5)]}
}

func (k maker) log(bound int) string {
	log := ""
	for range k.IntN(bound) {
		outs := []api.Digest{k.digest(), {k.Uint64(), k.Uint64()}}
		log += made(k.digest(), outs[:1+k.IntN(2)]...)
	}
	return log
}

// damage makes of a log one that is torn, cut, turned, or has bytes too many.
func (k maker) damage(log string) string {
	at := k.IntN(len(log) + 1)
	behind := min(len(log), at+k.IntN(60))
	return []string{log[:at], log[at:], log[:at] + "R" + log[at:], log[:at] + log[behind:], log[:at] + k.pick("\x00", "\x01", "\x02", "R\x01", "R\x02") + log[behind:], log[:at] + log}[k.IntN(6)]
}

func TestManyLogs(t *testing.T) {
	k := newMaker()
	for range 3000 {
		log := k.log(40)
		compareLog(t, log)
		compareLog(t, k.damage(log))
	}
}

// A log that was made short has all that counts, and cannot be made shorter.
func TestCompactIsReadWhole(t *testing.T) {
	k := newMaker()
	for range 500 {
		log := k.log(60)
		short := mill.Compact(log)
		tryCompact(t, short, short)
		tryCompact(t, log+short, short)
		before, _ := mill.Recover(log)
		latest := map[api.Digest]api.Record{}
		for _, r := range before {
			latest[r.Print] = r
		}
		after, n := mill.Recover(short)
		if n != len(short) || len(after) != len(latest) {
			t.Errorf("P7: Compact(%x) has %d records, %d of %d bytes are read", log, len(after), n, len(short))
		}
		for _, r := range after {
			if !sameRecord(r, latest[r.Print]) {
				t.Errorf("P7: Compact(%x) has %x, want %x", log, r, latest[r.Print])
			}
		}
	}
}

func TestLogsOfAnyBytes(t *testing.T) {
	k := newMaker()
	for n := range 3000 {
		b := make([]byte, k.IntN(n+1))
		for i := range b {
			b[i] = byte(k.IntN(256))
		}
		compareLog(t, string(b))
		compareLog(t, "R\x01"+string(b))
		compareLog(t, "R\x02"+string(b))
	}
	for i := range 256 {
		for n := range 120 {
			compareLog(t, strings.Repeat(string([]byte{byte(i)}), n))
		}
	}
	for first := range 256 {
		for second := range 256 {
			compareLog(t, string([]byte{byte(first), byte(second)})+strings.Repeat("\x00", 52))
		}
	}
}

func TestGreatLogs(t *testing.T) {
	d := api.Digest{1, 2}
	same := strings.Repeat(made(d, d)+made(d, d, d), 20000)
	if all, n := mill.Recover(same); len(all) != 40000 || n != len(same) {
		t.Errorf("P6: %d records, %d of %d bytes", len(all), n, len(same))
	}
	tryCompact(t, same, made(d, d, d))
	var falling []string
	for i := range 40000 {
		falling = append(falling, made(api.Digest{uint64(39999-i) << 40, 0}, d))
	}
	log := strings.Join(falling, "")
	slices.Reverse(falling)
	if mill.Compact(log) != strings.Join(falling, "") {
		t.Errorf("P7: Compact of 40000 records in falling order")
	}
	for _, junk := range []string{"R", "R\x01", "\x00"} {
		compareLog(t, strings.Repeat(junk, 1<<20))
	}
}

// All of each list, its spare room too, is written into: no other one is to show it.
func TestRecordsAreNewMemory(t *testing.T) {
	want, log, _ := threeRecords()
	before := strings.Clone(log)
	other, _ := mill.Recover(log)
	for i := range want {
		all, _ := mill.Recover(log)
		outs := all[i].Outs[:cap(all[i].Outs)]
		for j := range outs {
			outs[j] = api.Digest{77, 77}
		}
		all[i].Outs = append(all[i].Outs, api.Digest{78, 78})
		for j := range all {
			if j != i && !sameRecord(all[j], want[j]) {
				t.Errorf("P2: record %d shows what was written into record %d: %x", j, i, all[j])
			}
		}
		spare := all[:cap(all)]
		for j := range spare {
			spare[j] = api.Record{}
		}
	}
	again, _ := mill.Recover(log)
	if !sameRecords(other, want) || !sameRecords(again, want) || log != before {
		t.Errorf("P2: behind what was written into lists: %x, %x", other, again)
	}
}

// Nothing is kept from one log to another one, and calls at the same time do not meet.
func TestLogsAtTheSameTime(t *testing.T) {
	k := newMaker()
	logs := make([]string, 60)
	for i := range logs {
		logs[i] = k.damage(k.log(30))
	}
	var group sync.WaitGroup
	for w := range 4 {
		group.Go(func() {
			for i := range logs {
				compareLog(t, logs[(i*7+w*13)%len(logs)])
			}
		})
	}
	group.Wait()
}

func FuzzLog(f *testing.F) {
	k := newMaker()
	for range 20 {
		f.Add(k.log(4), 0)
		f.Add(k.log(4), 34)
		f.Add(k.log(4), 50)
	}
	f.Fuzz(func(t *testing.T, log string, at int) {
		// bytes that happen to have the right seal are too seldom
		if at > 0 && at < len(log) {
			log = sealed(log[:at]) + log[at:]
		}
		compareLog(t, log)
	})
}
