package slot_test

import (
	"encoding/binary"
	"hash/crc32"
	"math"
	"math/rand"
	"testing"

	"assay/api"
	"assay/slot"
)

// sum is the sector with the library's sum of its first 60 bytes behind them.
func sum(s api.Sector) api.Sector {
	binary.LittleEndian.PutUint32(s[60:], crc32.ChecksumIEEE(s[:60]))
	return s
}

// told is a sector as the chapter tells it, of an entry that may be right or not; of its numbers the lowest bytes.
func told(e api.Entry) api.Sector {
	s := api.Sector{0x42, byte(e.State)}
	binary.LittleEndian.PutUint16(s[2:], uint16(e.Start))
	binary.LittleEndian.PutUint16(s[4:], uint16(e.Length))
	copy(s[8:40], e.Key[:])
	return sum(s)
}

// data is the first data sector of a disk of n sectors, as DOC.md tells it.
func data(n int) int {
	d := n / 8
	return 11 + (n+479)/480 + d + n/16 + n/16 + (d+14)/15
}

// isDisk tells whether a disk has so many sectors.
func isDisk(n int) bool { return n >= 64 && n <= 1024 }

// isRight says it as the chapter does, sector by sector.
func isRight(e api.Entry, n int) bool {
	if e.State != 1 && e.State != 2 || e.Length < 0 || e.Length > 4096 {
		return false
	}
	if e.Length == 0 {
		return e.Start == 0
	}
	at := e.Start
	for left := e.Length; left > 0; left -= 64 {
		if at < data(n) || at > n-1 {
			return false
		}
		at++
	}
	return true
}

// read says what Get should, byte by byte.
func read(s api.Sector, n int) (api.Entry, int) {
	if !isDisk(n) {
		return api.Entry{}, slot.Torn
	}
	if s == (api.Sector{}) {
		return api.Entry{}, slot.Free
	}
	e := api.Entry{
		State:  int(s[1]),
		Start:  int(s[2]) + 256*int(s[3]),
		Length: int(s[4]) + 256*int(s[5]),
		Key:    api.Digest(s[8:40]),
	}
	ok := s == sum(s) && s[0] == 0x42 && s[6] == 0 && s[7] == 0 && isRight(e, n)
	for _, b := range s[40:60] {
		ok = ok && b == 0
	}
	if !ok {
		return api.Entry{}, slot.Torn
	}
	return e, slot.Right
}

// sizes is disks of the least and the greatest size, and of some between: at the edges of the bitmap's and the counts' sectors too.
func sizes() []int {
	return []int{64, 65, 71, 72, 80, 119, 120, 127, 128, 240, 247, 248, 321, 479, 480, 481, 512, 959, 960, 961, 1000, 1016, 1023, 1024}
}

// strange is numbers of sectors that no disk has; of some the lowest 8, 16 or 32 bits are those of a number that one has.
func strange() []int {
	return []int{
		math.MinInt, math.MinInt + 1, math.MinInt + 64, math.MinInt32, -1<<32 + 64, -1024, -64, -1,
		0, 1, 63, 1025, 2048, 1<<16 - 1, 1 << 16, 1<<16 + 64, math.MaxInt32, 1 << 32, 1<<32 + 64, 1<<32 + 1024, 1<<40 + 64, math.MaxInt,
	}
}

// far is numbers by which a right v comes out far off, though some of its bits stay the same.
func far(v int) []int {
	return []int{
		v + 1<<8, v - 1<<8, v + 1<<16, v - 1<<16, v + 1<<32, v - 1<<32, v + 1<<48, v ^ math.MinInt, ^v, -v,
		1<<15 - 1, 1 << 15, 1<<16 - 1, 1 << 16, math.MaxInt32, math.MaxInt, math.MaxInt - v, math.MaxInt - 62, math.MaxInt - 63, math.MaxInt - 64,
		-1, -64, math.MinInt32, math.MinInt, math.MinInt + 1, math.MinInt + 63, math.MinInt + v,
	}
}

// anyKey is a key of which no byte is another's.
func anyKey() api.Digest {
	var k api.Digest
	for i := range k {
		k[i] = byte(i + 1)
	}
	return k
}

// checkPut holds what Put answers, and what Get answers of that, against the chapter's words.
func checkPut(t *testing.T, e api.Entry, n int) {
	t.Helper()
	want, bad := told(e), api.OK
	switch {
	case !isDisk(n):
		want, bad = api.Sector{}, api.ErrSize
	case !isRight(e, n):
		want, bad = api.Sector{}, api.ErrRange
	}
	s, f := slot.Put(e, n)
	if s != want || f != bad {
		t.Fatalf("Put(%v, %d): % x, %d, want % x, %d", e, n, s, f, want, bad)
	}
	if bad == api.OK {
		if g, kind := slot.Get(s, n); g != e || kind != slot.Right {
			t.Fatalf("%v on %d sectors there and back: %v, %d", e, n, g, kind)
		}
	}
}

// checkGet holds what Get answers against the chapter's words, and Put of a right one against the sector.
func checkGet(t *testing.T, s api.Sector, n int) {
	t.Helper()
	want, kind := read(s, n)
	e, k := slot.Get(s, n)
	if e != want || k != kind {
		t.Fatalf("Get(% x, %d): %v, %d, want %v, %d", s, n, e, k, want, kind)
	}
	if k == slot.Right {
		if r, f := slot.Put(e, n); r != s || f != api.OK {
			t.Fatalf("% x on %d sectors back: % x, %d", s, n, r, f)
		}
	}
}

// rights is entries that are right on a disk of n sectors: of no sector, of one, of several, at both ends of the data.
func rights(n int) []api.Entry {
	d := data(n)
	return []api.Entry{
		{State: 1},
		{State: 2, Key: anyKey()},
		{State: 1, Start: d, Length: 1, Key: anyKey()},
		{State: 2, Start: n - 1, Length: 64},
		{State: 1, Start: n - 2, Length: 65, Key: api.Digest{0: 0xFF, 31: 0xFF}},
		{State: 2, Start: d, Length: 64 * min(64, n-d), Key: anyKey()},
		{State: 1, Start: n - min(64, n-d), Length: 64*min(64, n-d) - 63, Key: anyKey()},
	}
}

// P12.1, P12.2, P12.3
func TestTheExamples(t *testing.T) {
	k := anyKey()
	e := api.Entry{State: api.Live, Start: 29, Length: 65, Key: k}
	want := api.Sector{0x42, 0x01, 0x1D, 0x00, 0x41, 0x00, 0x00, 0x00}
	copy(want[8:], k[:])
	if s, f := slot.Put(e, 64); s != sum(want) || f != api.OK {
		t.Errorf("% x, %d", s, f)
	}
	if g, kind := slot.Get(sum(want), 64); g != e || kind != slot.Right {
		t.Errorf("%v, %d", g, kind)
	}
	for i, c := range []struct {
		e api.Entry
		n int
		f api.Errno
	}{
		{api.Entry{State: api.Live, Start: 28, Length: 65, Key: k}, 64, api.ErrRange},
		{api.Entry{State: api.Live, Start: 63, Length: 65, Key: k}, 64, api.ErrRange},
		{api.Entry{State: api.Live, Key: k}, 64, api.OK},
		{api.Entry{State: api.Live, Start: 29, Key: k}, 64, api.ErrRange},
		{api.Entry{State: 3, Start: 29, Length: 65, Key: k}, 64, api.ErrRange},
		{api.Entry{State: api.Live, Start: 279, Length: 4097, Key: k}, 1024, api.ErrRange},
		{e, 63, api.ErrSize},
	} {
		if s, f := slot.Put(c.e, c.n); f != c.f || (s == api.Sector{}) != (f != api.OK) {
			t.Errorf("row %d: % x, %d, want %d", i, s, f, c.f)
		}
	}
	for _, c := range [][2]int{{0, 0}, {1, 1}, {64, 1}, {65, 2}, {4096, 64}, {-1, 0}} {
		if got := slot.Sectors(api.Entry{Length: c[0]}); got != c[1] {
			t.Errorf("Length %d: %d sectors, want %d", c[0], got, c[1])
		}
	}
}

// The numbers that others write by name.
func TestTheKindsHaveTheirNumbers(t *testing.T) {
	if slot.Free != 1 || slot.Right != 2 || slot.Torn != 3 {
		t.Error(slot.Free, slot.Right, slot.Torn)
	}
}

// P12.1: the sums here are written out, so that they hang on no sum that is made by a call.
func TestSumsThatAreKnown(t *testing.T) {
	var ones api.Digest
	for i := range ones {
		ones[i] = 0xFF
	}
	for _, c := range []struct {
		e    api.Entry
		n    int
		want uint32
	}{
		{api.Entry{State: 1, Start: 29, Length: 65, Key: anyKey()}, 64, 0x925BE6FF},
		{api.Entry{State: 2}, 64, 0xF4D3D959},
		{api.Entry{State: 1, Start: 960, Length: 4096, Key: ones}, 1024, 0x2549FAB7},
		{api.Entry{State: 2, Start: 279, Length: 1, Key: anyKey()}, 1024, 0x9780BF31},
	} {
		s, f := slot.Put(c.e, c.n)
		if got := binary.LittleEndian.Uint32(s[60:]); got != c.want || f != api.OK {
			t.Errorf("%v: %08X, %d, want %08X", c.e, got, f, c.want)
		}
	}
}

// P12.1, P12.4: every Start with every Length, a little beyond what may be, on the least disk.
func TestEveryStartAndLengthOnTheLeastDisk(t *testing.T) {
	for start := -2; start <= 70; start++ {
		for length := -2; length <= 4100; length++ {
			checkPut(t, api.Entry{State: 1 + length&1, Start: start, Length: length, Key: anyKey()}, 64)
		}
	}
}

// P12.1, P12.4: on every disk, Length at each bound of a sector's, Start at its bounds and one beyond.
func TestTheBoundsOnEveryDisk(t *testing.T) {
	for n := 64; n <= 1024; n++ {
		d := data(n)
		for _, length := range []int{-1, 0, 1, 63, 64, 65, 128, 129, 64 * 35, 64*35 + 1, 4031, 4032, 4033, 4095, 4096, 4097} {
			k := (length + 63) / 64
			for _, start := range []int{-1, 0, 1, 10, d - 2, d - 1, d, d + 1, n - k - 1, n - k, n - k + 1, n - 1, n, n + 1} {
				checkPut(t, api.Entry{State: 1, Start: start, Length: length, Key: anyKey()}, n)
				checkPut(t, api.Entry{State: 2, Start: start, Length: length}, n)
			}
		}
	}
}

// P12.1: each of an entry's numbers far beyond or below what may be, the other ones right.
func TestFarNumbersAreRefused(t *testing.T) {
	for _, n := range sizes() {
		for _, e := range rights(n) {
			checkPut(t, e, n)
			for _, v := range far(e.Start) {
				x := e
				x.Start = v
				checkPut(t, x, n)
			}
			for _, v := range far(e.Length) {
				x := e
				x.Length = v
				checkPut(t, x, n)
			}
			for _, v := range far(e.State) {
				x := e
				x.State = v
				checkPut(t, x, n)
			}
		}
	}
}

// P12.1, P12.2: every state that a byte tells, and some that none does.
func TestEveryState(t *testing.T) {
	for _, n := range sizes() {
		for state := -300; state <= 600; state++ {
			for _, e := range rights(n) {
				e.State = state
				checkPut(t, e, n)
			}
		}
		for state := range 256 {
			for _, e := range rights(n) {
				e.State = state
				checkGet(t, told(e), n)
			}
		}
	}
}

// P12.1, P4: a size that no disk has is told ahead of an entry that is not right.
func TestOtherSizesAreRefused(t *testing.T) {
	l := strange()
	for n := -200; n < 64; n++ {
		l = append(l, n)
	}
	for n := 1025; n <= 3000; n++ {
		l = append(l, n)
	}
	entries := append(rights(64), rights(1024)...)
	entries = append(entries, api.Entry{}, api.Entry{State: 3, Start: -1, Length: 4097}, api.Entry{State: 1, Start: 2000, Length: 64})
	for _, n := range l {
		for _, e := range entries {
			if s, f := slot.Put(e, n); s != (api.Sector{}) || f != api.ErrSize {
				t.Fatalf("Put(%v, %d): % x, %d, want zeros, ErrSize", e, n, s, f)
			}
			if g, kind := slot.Get(told(e), n); g != (api.Entry{}) || kind != slot.Torn {
				t.Fatalf("Get(%v's, %d): %v, %d, want nothing, Torn", e, n, g, kind)
			}
		}
		// The zero sector too: it is free on a disk alone.
		if g, kind := slot.Get(api.Sector{}, n); g != (api.Entry{}) || kind != slot.Torn {
			t.Fatalf("Get(zeros, %d): %v, %d, want nothing, Torn", n, g, kind)
		}
	}
}

// P12.2
func TestTheZeroSectorIsFreeOnEveryDisk(t *testing.T) {
	for n := 64; n <= 1024; n++ {
		if e, kind := slot.Get(api.Sector{}, n); e != (api.Entry{}) || kind != slot.Free {
			t.Fatalf("%d: %v, %d", n, e, kind)
		}
		// One bit is enough to be none.
		for i := range 512 {
			var s api.Sector
			s[i/8] = 1 << (i % 8)
			if e, kind := slot.Get(s, n); e != (api.Entry{}) || kind != slot.Torn {
				t.Fatalf("%d, bit %d: %v, %d", n, i, e, kind)
			}
		}
	}
}

// P12.2, P12.4: every Start and Length that two bytes tell, each with some of the other, laid with their sum.
func TestEveryNumberOfTwoBytes(t *testing.T) {
	for _, n := range []int{64, 480, 1024} {
		d := data(n)
		for v := range 1 << 16 {
			for _, e := range []api.Entry{
				{State: 1, Start: v},
				{State: 2, Start: v, Length: 1, Key: anyKey()},
				{State: 1, Start: v, Length: 65, Key: anyKey()},
				{State: 1, Length: v},
				{State: 2, Start: d, Length: v, Key: anyKey()},
				{State: 1, Start: n - 3, Length: v},
			} {
				checkGet(t, told(e), n)
			}
		}
	}
}

// P12.2: on a disk of another size it may be another thing.
func TestOneSectorOnEveryDisk(t *testing.T) {
	for _, m := range sizes() {
		for _, e := range rights(m) {
			for n := 64; n <= 1024; n++ {
				checkGet(t, told(e), n)
			}
		}
	}
}

// P12.2, P12.4: one byte ahead of the sum is another, in each way, and the sum is right again.
func TestARightSumAloneMakesNoEntry(t *testing.T) {
	for _, n := range []int{64, 321, 1024} {
		for _, e := range rights(n) {
			s := told(e)
			for i := range 60 {
				for x := 1; x < 256; x++ {
					r := s
					r[i] ^= byte(x)
					r = sum(r)
					checkGet(t, r, n)
					fixed := i == 0 || i == 6 || i == 7 || i >= 40
					if _, kind := slot.Get(r, n); fixed && kind != slot.Torn {
						t.Fatalf("%v on %d: byte %d turned by %02x with its sum: %d", e, n, i, x, kind)
					}
				}
			}
		}
	}
}

// P12.2: what else a sector may be.
func TestSectorsThatAreNoEntry(t *testing.T) {
	var ones api.Sector
	for i := range ones {
		ones[i] = 0xFF
	}
	unsealed := told(api.Entry{State: 1, Start: 40, Length: 3})
	clear(unsealed[60:])
	highest := told(api.Entry{State: 1, Start: 40, Length: 3})
	binary.BigEndian.PutUint32(highest[60:], binary.LittleEndian.Uint32(highest[60:]))
	for what, s := range map[string]api.Sector{
		"zeros with their sum":           sum(api.Sector{}),
		"ones":                           ones,
		"ones with their sum":            sum(ones),
		"one without its sum":            unsealed,
		"one with the sum's bytes back":  highest,
		"the first byte alone":           sum(api.Sector{0x42}),
		"no first byte":                  sum(api.Sector{0, 1}),
		"a small letter":                 sum(api.Sector{0x62, 1}),
		"a tag's first byte":             sum(api.Sector{0x54, 1}),
		"a snapshot's first byte":        sum(api.Sector{0x53, 1}),
		"the highest bytes first":        sum(api.Sector{0x42, 1, 0, 40, 0, 3}),
		"a Start of none":                sum(api.Sector{0x42, 1, 40}),
		"a length from the disk's start": sum(api.Sector{0x42, 1, 0, 0, 3}),
		"a byte behind the length":       sum(api.Sector{0x42, 1, 40, 0, 3, 0, 1}),
		"the byte behind that":           sum(api.Sector{0x42, 1, 40, 0, 3, 0, 0, 1}),
		"a byte behind the key":          sum(api.Sector{0x42, 1, 40, 0, 3, 40: 1}),
		"the last byte ahead of the sum": sum(api.Sector{0x42, 1, 40, 0, 3, 59: 1}),
		"a superblock":                   sum(api.Sector{0x41, 0x53, 0x53, 0x41, 0x59, 1, 0, 0, 64}),
		"a mark":                         sum(api.Sector{0x4A, 0x4D, 1, 0, 20}),
	} {
		for n := 64; n <= 1024; n++ {
			if e, kind := slot.Get(s, n); e != (api.Entry{}) || kind != slot.Torn {
				t.Errorf("%s on %d: %v, %d", what, n, e, kind)
			}
		}
	}
}

// P12.2, P12.4: sectors by chance, without their sum and with it, and some that are nearly an entry's.
func TestSectorsByChance(t *testing.T) {
	r := rand.New(rand.NewSource(12))
	rightOnes := 0
	for range 200000 {
		var s api.Sector
		if r.Intn(4) == 0 {
			r.Read(s[:])
		} else {
			r.Read(s[8:40])
			s[0], s[1] = 0x42, byte(r.Intn(4))
			binary.LittleEndian.PutUint16(s[2:], uint16(r.Intn(1100)))
			binary.LittleEndian.PutUint16(s[4:], uint16(r.Intn(4200)>>r.Intn(13)))
		}
		if r.Intn(4) == 0 {
			s[r.Intn(60)] ^= byte(r.Intn(256))
		}
		if r.Intn(8) != 0 {
			s = sum(s)
		}
		n := sizes()[r.Intn(len(sizes()))]
		checkGet(t, s, n)
		if _, kind := slot.Get(s, n); kind == slot.Right {
			rightOnes++
		}
	}
	if rightOnes < 1000 {
		t.Errorf("only %d were right ones: the others show little", rightOnes)
	}
}

// P12.1, P12.4: entries by chance, there and back.
func TestEntriesByChance(t *testing.T) {
	r := rand.New(rand.NewSource(13))
	for range 100000 {
		e := api.Entry{State: r.Intn(4), Start: r.Intn(1100) - 20, Length: r.Intn(4200)>>r.Intn(13) - 1}
		r.Read(e.Key[:])
		checkPut(t, e, 64+r.Intn(961))
	}
}

// P12.3
func TestSectorsOfEveryLength(t *testing.T) {
	for length := -300; length <= 70000; length++ {
		want := 0
		if length <= 4096 {
			for left := length; left > 0; left -= 64 {
				want++
			}
		}
		// What else an entry tells is not asked.
		for _, e := range []api.Entry{{}, {State: 1, Start: 29, Key: anyKey()}, {State: -7, Start: math.MinInt}} {
			e.Length = length
			if got := slot.Sectors(e); got != want {
				t.Fatalf("%v: %d, want %d", e, got, want)
			}
		}
	}
	for _, length := range append(far(4096), far(1)...) {
		if length >= 0 && length <= 4096 {
			continue // 1 + 1<<8 is one that may be
		}
		if got := slot.Sectors(api.Entry{Length: length}); got != 0 {
			t.Errorf("Length %d: %d", length, got)
		}
	}
}

// turned is s with the bits of pattern turned, its lowest one at the bit at (of byte k bit b is the bit 8 k + b); those behind the sector fall away.
func turned(s api.Sector, at int, pattern uint32) api.Sector {
	for i := range 32 {
		if pattern>>i&1 == 1 && at+i < 512 {
			s[(at+i)/8] ^= 1 << ((at + i) % 8)
		}
	}
	return s
}

// P12.4: bursts of every length at every place: their ends alone, all of their bits, some by chance.
func TestNoBurstLeavesARightOne(t *testing.T) {
	r := rand.New(rand.NewSource(14))
	for _, n := range []int{64, 500, 1024} {
		for _, e := range rights(n) {
			s, f := slot.Put(e, n)
			if f != api.OK {
				t.Fatalf("%v on %d: %d", e, n, f)
			}
			for at := range 512 {
				for long := 1; long <= 32 && at+long <= 512; long++ {
					all := uint32(1<<long - 1)
					ends := uint32(1 | 1<<(long-1))
					for _, p := range []uint32{all, ends, ends | r.Uint32()&all} {
						x := turned(s, at, p)
						if g, kind := slot.Get(x, n); kind != slot.Torn || g != (api.Entry{}) {
							t.Fatalf("%v on %d: bits %032b turned from %d on: %v, %d", e, n, p, at, g, kind)
						}
					}
				}
			}
		}
	}
}

// P12.4: nor is it right on another disk.
func TestNoBurstMakesAnotherDisksEntry(t *testing.T) {
	r := rand.New(rand.NewSource(15))
	for _, m := range sizes() {
		for _, e := range rights(m) {
			for range 300 {
				p := r.Uint32()>>r.Intn(32) | 1
				x := turned(told(e), r.Intn(512), p)
				for _, n := range sizes() {
					if g, kind := slot.Get(x, n); kind == slot.Right {
						t.Fatalf("%v of %d on %d: % x, %v", e, m, n, x, g)
					}
				}
			}
		}
	}
}

// P2, P3, P5: what is handed in stays, what is answered may be written into, and the same is answered again.
func TestNothingIsSharedOrChanged(t *testing.T) {
	for _, n := range append(sizes(), 63, 1025, -1) {
		for _, e := range append(rights(64), api.Entry{State: 3, Start: -1, Length: 5000, Key: anyKey()}) {
			before := e
			s, f := slot.Put(e, n)
			k := slot.Sectors(e)
			if e != before {
				t.Fatalf("%v has become %v", before, e)
			}
			kept := s
			g, kind := slot.Get(s, n)
			if s != kept {
				t.Fatalf("% x has become % x", kept, s)
			}
			first := g
			for i := range s {
				s[i] ^= 0xFF
			}
			for i := range g.Key {
				g.Key[i] ^= 0xFF
			}
			if again, f2 := slot.Put(e, n); again != kept || f2 != f || slot.Sectors(e) != k {
				t.Fatalf("%v on %d the second time: % x, %d", e, n, again, f2)
			}
			if again, kind2 := slot.Get(kept, n); again != first || kind2 != kind {
				t.Fatalf("% x on %d the second time: %v, %d", kept, n, again, kind2)
			}
		}
	}
}
