package bits_test

import (
	"bytes"
	"encoding/binary"
	"hash/crc32"
	"math"
	"math/rand"
	"slices"
	"testing"

	"assay/api"
	"assay/bits"
)

// sum is the sector with the library's sum of its first 60 bytes behind them.
func sum(s api.Sector) api.Sector {
	binary.LittleEndian.PutUint32(s[60:], crc32.ChecksumIEEE(s[:60]))
	return s
}

// set is n bits, those of the list true.
func set(n int, l ...int) []bool {
	b := make([]bool, n)
	for _, i := range l {
		b[i] = true
	}
	return b
}

// some is n bits by chance, the same for the same seed.
func some(n int, seed int64) []bool {
	r := rand.New(rand.NewSource(seed))
	b := make([]bool, n)
	for i := range b {
		b[i] = r.Intn(2) == 1
	}
	return b
}

// laid is the bitmap of n bits as the chapter tells it: a bit is asked for by its sector, byte and worth.
func laid(b []bool) []api.Sector {
	var l []api.Sector
	for k := 0; k*480 < len(b); k++ {
		var s api.Sector
		for at := range 60 {
			worth := byte(1)
			for bit := range 8 {
				if i := 480*k + 8*at + bit; i < len(b) && b[i] {
					s[at] += worth
				}
				worth *= 2
			}
		}
		l = append(l, sum(s))
	}
	return l
}

// turned is the sector with the bits of a pattern turned, the pattern's lowest one at a bit of its 512.
func turned(s api.Sector, from int, pattern uint32) api.Sector {
	for i := range 32 {
		if pattern>>i&1 == 1 {
			s[(from+i)/8] ^= 1 << ((from + i) % 8)
		}
	}
	return s
}

// without is the bits with those of one of the bitmap's sectors false.
func without(b []bool, k int) []bool {
	c := slices.Clone(b)
	for i := range c {
		if i/480 == k {
			c[i] = false
		}
	}
	return c
}

// reads holds what is read against bits and numbers.
func reads(t *testing.T, what string, l []api.Sector, n int, want []bool, torn ...int) {
	t.Helper()
	b, d := bits.Get(l, n)
	if !slices.Equal(b, want) {
		t.Errorf("%s: other bits: %v, want %v", what, b, want)
	}
	if !slices.Equal(d, torn) {
		t.Errorf("%s: torn %v, want %v", what, d, torn)
	}
}

// P7.1, P7.2
func TestTheExamples(t *testing.T) {
	l := bits.Put(set(64))
	if len(l) != 1 || l[0] != sum(api.Sector{}) {
		t.Errorf("no bit of 64: %v", l)
	}
	l = bits.Put(set(64, 0, 9, 63))
	if len(l) != 1 || l[0] != sum(api.Sector{1, 2, 0, 0, 0, 0, 0, 0x80}) {
		t.Errorf("bits 0, 9, 63 of 64: %v", l)
	}
	l = bits.Put(set(481, 480))
	if len(l) != 2 || l[0] != sum(api.Sector{}) || l[1] != sum(api.Sector{1}) {
		t.Errorf("bit 480 of 481: %v", l)
	}
	for _, n := range []int{63, 1025} {
		if l := bits.Put(set(n)); len(l) != 0 {
			t.Errorf("%d bits: %v", n, l)
		}
	}
	reads(t, "two sectors of 64", make([]api.Sector, 2), 64, nil)
	reads(t, "one sector of 63", make([]api.Sector, 1), 63, nil)
	reads(t, "zeros", make([]api.Sector, 1), 64, set(64), 0)
	reads(t, "bit 64 of 64", []api.Sector{sum(api.Sector{8: 1})}, 64, set(64), 0)
}

// P7.1: numbers of sectors that no disk has, with as many of the bitmap's as they would ask for, and others.
func TestGetOfNoDisk(t *testing.T) {
	good := sum(api.Sector{})
	for _, n := range []int{
		math.MinInt, math.MinInt + 1, -1 << 32, -1024, -481, -480, -479, -64, -1, 0, 1, 8, 62, 63,
		1025, 1026, 1440, 1441, 2048, 1<<32 + 64, math.MaxInt - 479, math.MaxInt - 1, math.MaxInt,
	} {
		for many := range 6 {
			reads(t, "no disk", slices.Repeat([]api.Sector{good}, many), n, nil)
		}
	}
}

// P7.1: one too few, one too many, none.
func TestGetOfAnotherNumberOfSectors(t *testing.T) {
	good := sum(api.Sector{})
	for n := api.MinSectors; n <= api.MaxSectors; n++ {
		need := len(laid(set(n)))
		for many := range 6 {
			l := slices.Repeat([]api.Sector{good}, many)
			if many == need {
				reads(t, "enough", l, n, set(n))
			} else {
				reads(t, "another number", l, n, nil)
			}
		}
		reads(t, "nil", nil, n, nil)
	}
}

// P7.1, P7.2, P7.3: each number of sectors, held against bits that are laid another way.
func TestThereAndBackOfAllSizes(t *testing.T) {
	for n := api.MinSectors; n <= api.MaxSectors; n++ {
		all := slices.Repeat([]bool{true}, n)
		for _, b := range [][]bool{set(n), all, set(n, 0), set(n, n-1), some(n, int64(n))} {
			l := bits.Put(b)
			if !slices.Equal(l, laid(b)) {
				t.Fatalf("%d bits: %v, want %v", n, l, laid(b))
			}
			reads(t, "back", l, n, b)
		}
	}
}

// P7.1, P7.2, P7.3: each bit alone has its own place.
func TestEachBitAlone(t *testing.T) {
	for _, n := range []int{64, 65, 479, 480, 481, 959, 960, 961, 1023, 1024} {
		for i := range n {
			b := set(n, i)
			l := bits.Put(b)
			if l[i/480][i%480/8] != 1<<(i%480%8) {
				t.Fatalf("bit %d of %d: %v", i, n, l)
			}
			if !slices.Equal(l, laid(b)) {
				t.Fatalf("bit %d of %d: %v, want %v", i, n, l, laid(b))
			}
			reads(t, "one bit", l, n, b)
		}
	}
}

// P7.2: numbers of bits that no disk has.
func TestPutOfNoDisk(t *testing.T) {
	if l := bits.Put(nil); len(l) != 0 {
		t.Errorf("nil: %v", l)
	}
	for n := range api.MinSectors {
		if l := bits.Put(some(n, 1)); len(l) != 0 {
			t.Errorf("%d bits: %v", n, l)
		}
	}
	for n := api.MaxSectors + 1; n < 2*api.MaxSectors+100; n++ {
		if l := bits.Put(some(n, 1)); len(l) != 0 {
			t.Errorf("%d bits: %v", n, l)
		}
	}
}

// P7.1: a sector with its sum is torn by any bit behind the disk's last one, and by none ahead of it.
func TestBitsOfNoSector(t *testing.T) {
	for _, n := range []int{64, 65, 71, 72, 479, 480, 481, 500, 959, 960, 961, 1024} {
		b := some(n, 7)
		last := len(laid(b)) - 1
		for i := n; i < 480*(last+1); i++ {
			l := laid(b)
			l[last][i%480/8] |= 1 << (i % 8)
			l[last] = sum(l[last])
			reads(t, "a bit behind the last", l, n, without(b, last), last)
		}
	}
}

// P7.1: all eight ways in which three sectors are torn or not: each is judged alone, and the numbers rise.
func TestWhichAreTorn(t *testing.T) {
	const n = 1024
	b := some(n, 3)
	for mask := range 8 {
		l, want := laid(b), b
		var torn []int
		for k := range 3 {
			if mask>>k&1 == 1 {
				l[k][17] ^= 0x10
				want = without(want, k)
				torn = append(torn, k)
			}
		}
		reads(t, "torn ones", l, n, want, torn...)
	}
}

// P7.1: the sum's bytes alone make a sector torn too, laid the other way round as well.
func TestAnotherSum(t *testing.T) {
	b := some(64, 5)
	for at := 60; at < 64; at++ {
		for v := 1; v < 256; v++ {
			l := laid(b)
			l[0][at] ^= byte(v)
			reads(t, "another sum", l, 64, set(64), 0)
		}
	}
	l := laid(b)
	slices.Reverse(l[0][60:])
	reads(t, "the sum's highest byte first", l, 64, set(64), 0)
}

// P7.3: one to 32 bits in a row, at each place of a sector, across the sum's beginning too.
func TestTurnedBitsMakeASectorTorn(t *testing.T) {
	r := rand.New(rand.NewSource(11))
	for _, n := range []int{64, 480, 481, 1000, 1024} {
		b := some(n, int64(n))
		good := bits.Put(b)
		for k := range good {
			for from := range 512 {
				width := min(32, 512-from)
				whole := uint32(1)<<width - 1
				for _, pattern := range []uint32{1, whole, 1 | 1<<(width-1), r.Uint32() & whole, r.Uint32() & whole} {
					if pattern == 0 {
						continue
					}
					l := slices.Clone(good)
					l[k] = turned(l[k], from, pattern)
					reads(t, "turned", l, n, without(b, k), k)
				}
			}
		}
	}
}

// P7.3: sectors by chance, of which some have their sum: where none is torn, what was read is laid again.
func TestWhatWasReadIsLaidAgain(t *testing.T) {
	r := rand.New(rand.NewSource(13))
	kept := 0
	for range 4000 {
		n := api.MinSectors + r.Intn(api.MaxSectors-api.MinSectors+1)
		l := make([]api.Sector, (n+479)/480)
		for k := range l {
			for range r.Intn(12) {
				l[k][r.Intn(60)] |= 1 << r.Intn(8)
			}
			if r.Intn(8) > 0 {
				l[k] = sum(l[k])
			}
		}
		b, torn := bits.Get(l, n)
		if len(b) != n {
			t.Fatalf("%d bits of %d", len(b), n)
		}
		if len(torn) > 0 {
			continue
		}
		kept++
		if !slices.Equal(bits.Put(b), l) {
			t.Fatalf("%d sectors: %v is laid again as %v", n, l, bits.Put(b))
		}
	}
	if kept == 0 {
		t.Error("all were torn")
	}
}

// P2: what is handed in stays, the room behind it too, and what is handed out is new each time.
func TestNothingIsShared(t *testing.T) {
	const n = 1000
	b := append(some(n, 17), true, false, true)
	was := slices.Clone(b)
	l := bits.Put(b[:n])
	if !slices.Equal(b, was) {
		t.Error("Put changes its bits")
	}
	room := append(slices.Clone(l), api.Sector{1, 2, 3})
	before := slices.Clone(room)
	room[1][0] ^= 1
	before[1][0] ^= 1
	got, torn := bits.Get(room[:3], n)
	if !slices.Equal(room, before) {
		t.Error("Get changes its sectors")
	}
	clear(got)
	torn[0] = 9
	reads(t, "again", room[:3], n, without(b[:n], 1), 1)
	clear(l)
	if !slices.Equal(bits.Put(b[:n]), laid(b[:n])) {
		t.Error("Put hands out what it handed out before")
	}
	if !bytes.Equal(room[3][:3], []byte{1, 2, 3}) {
		t.Error("the room behind the sectors is changed")
	}
}
