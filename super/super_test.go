package super_test

import (
	"encoding/binary"
	"hash/crc32"
	"math"
	"math/rand"
	"testing"

	"assay/api"
	"assay/super"
)

// sum is the sector with the library's sum of its first 60 bytes behind them.
func sum(s api.Sector) api.Sector {
	binary.LittleEndian.PutUint32(s[60:], crc32.ChecksumIEEE(s[:60]))
	return s
}

// told is a superblock as the chapter tells it, of a number that a disk may have or not.
func told(n uint32) api.Sector {
	s := api.Sector{0x41, 0x53, 0x53, 0x41, 0x59, 0x01}
	binary.LittleEndian.PutUint32(s[8:], n)
	return sum(s)
}

// strange is numbers of sectors that no disk has; of some the lowest 8, 16 or 32 bits are those of a number that one has.
func strange() []int {
	return []int{
		math.MinInt, math.MinInt + 1, math.MinInt + 64, math.MinInt32, -1<<32 + 64, -1024, -64, -1,
		0, 1, 63, 1025, 2048, 1<<16 - 1, 1 << 16, 1<<16 + 64, math.MaxInt32, 1 << 32, 1<<32 + 64, 1<<32 + 1024, 1<<40 + 64, math.MaxInt,
	}
}

// put is the superblock of a number that a disk may have.
func put(t *testing.T, n int) api.Sector {
	t.Helper()
	s, e := super.Put(n)
	if e != api.OK {
		t.Fatalf("%d sectors: error %d", n, e)
	}
	return s
}

// nowhere asks a sector with every size that a disk may have, and with those that none has.
func nowhere(t *testing.T, what string, s api.Sector) {
	t.Helper()
	for n := -1; n <= 1100; n++ {
		if super.Is(s, n) {
			t.Errorf("%s is the superblock of %d: % x", what, n, s)
		}
	}
	for _, n := range strange() {
		if super.Is(s, n) {
			t.Errorf("%s is the superblock of %d: % x", what, n, s)
		}
	}
}

// P11.1, P11.2
func TestTheExamples(t *testing.T) {
	s64 := sum(api.Sector{0x41, 0x53, 0x53, 0x41, 0x59, 1, 0, 0, 0x40, 0, 0, 0})
	if s, e := super.Put(64); s != s64 || e != api.OK {
		t.Errorf("64: % x, %d", s, e)
	}
	if s, e := super.Put(1024); s != sum(api.Sector{0x41, 0x53, 0x53, 0x41, 0x59, 1, 0, 0, 0, 4, 0, 0}) || e != api.OK {
		t.Errorf("1024: % x, %d", s, e)
	}
	for _, n := range []int{63, 1025, -1} {
		if s, e := super.Put(n); s != (api.Sector{}) || e != api.ErrSize {
			t.Errorf("%d: % x, %d", n, s, e)
		}
	}
	if !super.Is(s64, 64) {
		t.Error("64's is none of 64")
	}
	if super.Is(s64, 65) {
		t.Error("64's is one of 65")
	}
	if super.Is(api.Sector{}, 64) {
		t.Error("zeros are one of 64")
	}
	if super.Is(s64, 0) {
		t.Error("64's is one of 0")
	}
}

// P11.1: the sums here are written out, so that they hang on no sum that is made by a call.
func TestSumsThatAreKnown(t *testing.T) {
	for n, want := range map[int]uint32{64: 0xE8D1831C, 321: 0x4B238C82, 1024: 0xDF233F86} {
		s := put(t, n)
		if got := binary.LittleEndian.Uint32(s[60:]); got != want {
			t.Errorf("%d: %08X, want %08X", n, got, want)
		}
	}
}

// P11.1, P11.2
func TestEverySizeIsLaidAndKnown(t *testing.T) {
	for n := api.MinSectors; n <= api.MaxSectors; n++ {
		s, e := super.Put(n)
		if want := told(uint32(n)); s != want || e != api.OK {
			t.Fatalf("%d: % x, %d, want % x", n, s, e, want)
		}
		if !super.Is(told(uint32(n)), n) {
			t.Fatalf("%d: the one that is told is none", n)
		}
	}
}

// P11.1, P3
func TestOtherSizesAreRefused(t *testing.T) {
	l := strange()
	for n := -200; n < api.MinSectors; n++ {
		l = append(l, n)
	}
	for n := api.MaxSectors + 1; n <= 3000; n++ {
		l = append(l, n)
	}
	for _, n := range l {
		if s, e := super.Put(n); s != (api.Sector{}) || e != api.ErrSize {
			t.Errorf("%d: % x, %d, want zeros, ErrSize", n, s, e)
		}
	}
}

// P11.2: one that is laid in all ways, but of a size that no disk has, is none; nor is the zero sector, which stands beside an error.
func TestNothingIsASuperblockOfOtherSizes(t *testing.T) {
	for _, n := range append(strange(), 62, 1026) {
		for _, s := range []api.Sector{told(uint32(n)), {}, sum(api.Sector{}), told(64), told(1024)} {
			if super.Is(s, n) {
				t.Errorf("%d: % x", n, s)
			}
		}
	}
}

// P11.2
func TestSizesThatNoDiskHasMakeNone(t *testing.T) {
	for _, n := range strange() {
		low := uint32(n)
		if low >= api.MinSectors && low <= api.MaxSectors {
			continue // laid in four bytes it is another disk's
		}
		nowhere(t, "a size that no disk has", told(low))
	}
	nowhere(t, "64 in two bytes' higher half", told(64<<16))
	nowhere(t, "64, and a bit of the highest byte", told(64|1<<31))
}

// P11.3
func TestASectorIsOneSizesAtMost(t *testing.T) {
	for n := api.MinSectors; n <= api.MaxSectors; n++ {
		s := put(t, n)
		for m := -1; m <= 1100; m++ {
			if got := super.Is(s, m); got != (m == n) {
				t.Fatalf("the one of %d asked with %d: %v", n, m, got)
			}
		}
		for _, m := range strange() {
			if super.Is(s, m) {
				t.Fatalf("the one of %d asked with %d", n, m)
			}
		}
	}
}

// P11.3: each byte of each size's, turned by each of its bits and by some others.
func TestAnyByteTurnedMakesNone(t *testing.T) {
	for n := api.MinSectors; n <= api.MaxSectors; n++ {
		s := put(t, n)
		for i := range s {
			for _, x := range []byte{1, 2, 4, 8, 16, 32, 64, 128, 255, 0x5A, s[i]} {
				if x == 0 {
					continue // it would be the same byte
				}
				r := s
				r[i] ^= x
				if super.Is(r, n) {
					t.Fatalf("%d: byte %d turned by %02x", n, i, x)
				}
			}
		}
	}
}

// P11.3: each byte in each way, asked with the size that it was laid of, the one that it tells then, those beside it, the least and the greatest.
func TestAnyByteTurnedInAnyWayIsNoSizes(t *testing.T) {
	for _, n := range []int{64, 255, 256, 321, 1024} {
		s := put(t, n)
		for i := range s {
			for x := 1; x < 256; x++ {
				r := s
				r[i] ^= byte(x)
				size := int(binary.LittleEndian.Uint32(r[8:]))
				for _, m := range []int{n, size, n - 1, n + 1, 64, 1024} {
					if super.Is(r, m) {
						t.Fatalf("%d: byte %d turned by %02x, asked with %d", n, i, x, m)
					}
				}
			}
		}
	}
}

// P11.2, P11.3: one byte ahead of the sum is another, in each way, and the sum is right again.
func TestARightSumAloneMakesNone(t *testing.T) {
	for _, n := range []int{64, 321, 1024} {
		s := put(t, n)
		for i := range 60 {
			for x := 1; x < 256; x++ {
				r := s
				r[i] ^= byte(x)
				r = sum(r)
				size := int(binary.LittleEndian.Uint32(r[8:]))
				for _, m := range []int{n, size, 64, 1024} {
					// Where the changed byte is one of N's, it may be another disk's, and of that it is the superblock.
					want := i >= 8 && i < 12 && m == size && m >= 64 && m <= 1024
					if super.Is(r, m) != want {
						t.Fatalf("%d: byte %d turned by %02x with its sum, asked with %d: %v", n, i, x, m, !want)
					}
				}
			}
		}
	}
}

// P11.2: what else a sector may be.
func TestSectorsThatAreNone(t *testing.T) {
	var ones api.Sector
	for i := range ones {
		ones[i] = 0xFF
	}
	unsealed := told(64)
	clear(unsealed[60:])
	highest := told(64)
	binary.BigEndian.PutUint32(highest[60:], binary.LittleEndian.Uint32(highest[60:]))
	for what, s := range map[string]api.Sector{
		"zeros":                          {},
		"zeros with their sum":           sum(api.Sector{}),
		"ones":                           ones,
		"ones with their sum":            sum(ones),
		"one without its sum":            unsealed,
		"one with the sum's bytes back":  highest,
		"N's highest byte first":         sum(api.Sector{0x41, 0x53, 0x53, 0x41, 0x59, 1, 10: 0, 11: 64}),
		"N where the zeros stand":        sum(api.Sector{0x41, 0x53, 0x53, 0x41, 0x59, 1, 64}),
		"N twice":                        sum(api.Sector{0x41, 0x53, 0x53, 0x41, 0x59, 1, 0, 0, 64, 0, 0, 0, 64}),
		"no N":                           sum(api.Sector{0x41, 0x53, 0x53, 0x41, 0x59, 1}),
		"small letters":                  sum(api.Sector{0x61, 0x73, 0x73, 0x61, 0x79, 1, 0, 0, 64}),
		"form 0":                         sum(api.Sector{0x41, 0x53, 0x53, 0x41, 0x59, 0, 0, 0, 64}),
		"form 2":                         sum(api.Sector{0x41, 0x53, 0x53, 0x41, 0x59, 2, 0, 0, 64}),
		"a byte behind N":                sum(api.Sector{0x41, 0x53, 0x53, 0x41, 0x59, 1, 0, 0, 64, 12: 1}),
		"the last byte ahead of the sum": sum(api.Sector{0x41, 0x53, 0x53, 0x41, 0x59, 1, 0, 0, 64, 59: 1}),
		"an entry's first byte":          sum(api.Sector{0x42, 1}),
		"a mark":                         sum(api.Sector{0x4A, 0x4D, 1, 0, 20}),
	} {
		nowhere(t, what, s)
	}
	r := rand.New(rand.NewSource(11))
	for range 200 {
		var s api.Sector
		r.Read(s[:])
		nowhere(t, "one by chance", s)
		nowhere(t, "one by chance with its sum", sum(s))
	}
}

// P2, P3, P5: what is answered may be written into; neither a later answer nor what is handed in sees that.
func TestNothingIsSharedOrChanged(t *testing.T) {
	a := put(t, 64)
	for i := range a {
		a[i] ^= 0xFF
	}
	if b := put(t, 64); b != told(64) {
		t.Errorf("a second one: % x", b)
	}
	r := rand.New(rand.NewSource(12))
	for range 50 {
		s := told(64)
		if r.Intn(2) == 0 {
			r.Read(s[:])
		}
		before, n := s, 64+r.Intn(2)
		first := super.Is(s, n)
		if s != before || super.Is(s, n) != first {
			t.Errorf("% x has become % x, %v", before, s, first)
		}
	}
}
