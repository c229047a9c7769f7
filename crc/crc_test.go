package crc_test

import (
	"bytes"
	"hash/crc32"
	"math/rand"
	"testing"

	"assay/api"
	"assay/crc"
)

// some is n bytes that hang on the seed alone.
func some(seed int64, n int) []byte {
	b := make([]byte, n)
	rand.New(rand.NewSource(seed)).Read(b)
	return b
}

// sectors are of many kinds: zeros, ones, single bits, and bytes of all sorts.
func sectors() []api.Sector {
	l := []api.Sector{{}, api.Sector(bytes.Repeat([]byte{255}, api.SectorSize))}
	for bit := range 8 * api.SectorSize {
		l = append(l, flipped(api.Sector{}, bit))
	}
	for seed := range 40 {
		l = append(l, api.Sector(some(int64(seed), api.SectorSize)))
	}
	return l
}

// flipped is the sector with some bits turned.
func flipped(s api.Sector, bits ...int) api.Sector {
	for _, b := range bits {
		s[b/8] ^= 1 << (b % 8)
	}
	return s
}

// turnedFrom is the bytes with the ones of a pattern of 32 bits turned, from a bit on; bits behind the end are left out.
func turnedFrom(b []byte, from int, pattern uint32) []byte {
	b = bytes.Clone(b)
	for i := range 32 {
		if at := from + i; pattern>>i&1 == 1 && at < 8*len(b) {
			b[at/8] ^= 1 << (at % 8)
		}
	}
	return b
}

// patterns have their lowest bit, so that each one turns a bit wherever it is laid.
func patterns() []uint32 {
	l := []uint32{1, 3, 0xFF, 0xFFFF, 0xFFFFFFFF, 0x80000001, 0xEDB88321, 0x04C11DB7, 0x82608EDB, 0xAAAAAAAB}
	for i := 1; i < 32; i++ {
		l = append(l, 1|1<<i)
	}
	r := rand.New(rand.NewSource(5))
	for range 60 {
		l = append(l, r.Uint32()|1)
	}
	return l
}

// P2.1
func TestSumOfTheExamples(t *testing.T) {
	for _, c := range []struct {
		parts []string
		want  uint32
	}{
		{nil, 0},
		{[]string{""}, 0},
		{[]string{"", "", ""}, 0},
		{[]string{"123456789"}, 0xCBF43926},
		{[]string{"1234", "56789"}, 0xCBF43926},
		{[]string{"a"}, 0xE8B7BE43},
		{[]string{"\x00"}, 0xD202EF8D},
		{[]string{"\x00\x00\x00\x00"}, 0x2144DF1C},
		{[]string{"\xFF\xFF\xFF\xFF"}, 0xFFFFFFFF},
	} {
		var parts [][]byte
		for _, p := range c.parts {
			parts = append(parts, []byte(p))
		}
		if got := crc.Sum(parts...); got != c.want {
			t.Errorf("Sum(%q): %08X, want %08X", c.parts, got, c.want)
		}
	}
	if crc.Sum(nil) != 0 || crc.Sum(nil, nil) != 0 || crc.Sum([]byte{}) != 0 {
		t.Error("the sum of no bytes is not 0")
	}
}

// P2.1
func TestSumIsTheOneThatIsKnown(t *testing.T) {
	for c := range 256 {
		b := []byte{byte(c)}
		if got, want := crc.Sum(b), crc32.ChecksumIEEE(b); got != want {
			t.Errorf("Sum of the byte %d: %08X, want %08X", c, got, want)
		}
	}
	for n := range 300 {
		b := some(int64(n), n)
		if got, want := crc.Sum(b), crc32.ChecksumIEEE(b); got != want {
			t.Errorf("Sum of %d bytes: %08X, want %08X", n, got, want)
		}
	}
	long := some(1, api.MaxSectors*api.SectorSize)
	if got, want := crc.Sum(long), crc32.ChecksumIEEE(long); got != want {
		t.Errorf("Sum of a disk's bytes: %08X, want %08X", got, want)
	}
}

// P2.1
func TestSumDoesNotSeeParts(t *testing.T) {
	b := some(2, 70)
	want := crc.Sum(b)
	for i := range len(b) + 1 {
		for j := i; j <= len(b); j++ {
			if got := crc.Sum(b[:i], b[i:j], nil, b[j:]); got != want {
				t.Fatalf("Sum cut at %d and %d: %08X, want %08X", i, j, got, want)
			}
		}
	}
	var single [][]byte
	for i := range b {
		single = append(single, b[i:i+1])
	}
	if got := crc.Sum(single...); got != want {
		t.Errorf("Sum byte by byte: %08X, want %08X", got, want)
	}
	if crc.Sum(b[35:], b[:35]) == want {
		t.Error("the order of the parts is not seen")
	}
}

// P2.1, P2, P3
func TestSumLeavesWhatItIsHanded(t *testing.T) {
	room := some(3, 40)
	parts := [][]byte{room[:10], room[20:25], nil, room[30:30], room[5:15]}
	want := crc.Sum(parts[:2]...)
	if got := crc.Sum(parts[:2]...); got != want {
		t.Errorf("a second Sum is another: %08X, %08X", got, want)
	}
	if !bytes.Equal(room, some(3, 40)) {
		t.Error("the bytes or the room behind them are others")
	}
	if len(parts[0]) != 10 || len(parts[1]) != 5 || parts[2] != nil || len(parts[4]) != 10 {
		t.Error("the list of parts or the room behind it is another")
	}
	if overlapping := crc.Sum(room[:10], room[5:15]); overlapping != crc32.ChecksumIEEE(append(bytes.Clone(room[:10]), room[5:15]...)) {
		t.Errorf("parts that share bytes: %08X", overlapping)
	}
}

// P2.2
func TestSealPutsTheSumLowestByteFirst(t *testing.T) {
	for _, s := range sectors() {
		got := crc.Seal(s)
		n := crc32.ChecksumIEEE(s[:60])
		want := s
		want[60], want[61], want[62], want[63] = byte(n), byte(n>>8), byte(n>>16), byte(n>>24)
		if got != want {
			t.Fatalf("Seal of % x: % x, want % x", s, got, want)
		}
		if !crc.Sealed(got) || crc.Seal(got) != got {
			t.Fatalf("% x is not sealed", got)
		}
		if crc.Sealed(s) != (s == want) {
			t.Fatalf("Sealed of % x is %v", s, crc.Sealed(s))
		}
	}
}

// P2.2
func TestSealOfAKnownSector(t *testing.T) {
	var s api.Sector
	copy(s[:], "123456789")
	s[60], s[61], s[62], s[63] = 1, 2, 3, 4
	got := crc.Seal(s)
	if !bytes.Equal(got[:60], s[:60]) {
		t.Errorf("the first 60 bytes are others: % x", got[:60])
	}
	if !bytes.Equal(got[60:], []byte{0xDB, 0x69, 0x59, 0x28}) {
		t.Errorf("the last four bytes: % x", got[60:])
	}
	if s[60] != 1 || s[63] != 4 {
		t.Error("the sector that was handed in is another")
	}
}

// P2.2
func TestSealedOfWrongSums(t *testing.T) {
	x := crc.Seal(api.Sector(some(9, api.SectorSize)))
	backwards, whole, unturned, zeros := x, x, x, x
	for i := range 4 {
		backwards[60+i] = x[63-i]
		unturned[60+i] = ^x[60+i]
		zeros[60+i] = 0
	}
	n := crc32.ChecksumIEEE(x[:])
	whole[60], whole[61], whole[62], whole[63] = byte(n), byte(n>>8), byte(n>>16), byte(n>>24)
	for _, s := range []api.Sector{backwards, whole, unturned, zeros} {
		if crc.Sealed(s) {
			t.Errorf("% x is sealed", s)
		}
	}
}

// P2.3
func TestSumOfXored(t *testing.T) {
	for n := range 80 {
		a, b, c := some(int64(3*n), n), some(int64(3*n+1), n), some(int64(3*n+2), n)
		x := make([]byte, n)
		for i := range x {
			x[i] = a[i] ^ b[i] ^ c[i]
		}
		if got, want := crc.Sum(x), crc.Sum(a)^crc.Sum(b)^crc.Sum(c); got != want {
			t.Errorf("of %d bytes: %08X, want %08X", n, got, want)
		}
	}
}

// P2.3
func TestSumSeesTurnedBits(t *testing.T) {
	for _, n := range []int{1, 2, 4, 5, 60} {
		b := some(int64(n), n)
		want := crc.Sum(b)
		for from := range 8 * n {
			for _, p := range patterns() {
				if crc.Sum(turnedFrom(b, from, p)) == want {
					t.Fatalf("of %d bytes, from bit %d on %08X turned: the same sum", n, from, p)
				}
			}
		}
	}
}

// P2.3
func TestSealedSeesTurnedBits(t *testing.T) {
	for _, s := range []api.Sector{{}, api.Sector(some(4, api.SectorSize))} {
		x := crc.Seal(s)
		for from := range 8 * api.SectorSize {
			for _, p := range patterns() {
				y := api.Sector(turnedFrom(x[:], from, p))
				if crc.Sealed(y) {
					t.Fatalf("from bit %d on %08X turned: sealed still", from, p)
				}
			}
		}
	}
}

// P2.4
func TestZerosAreNotSealed(t *testing.T) {
	if crc.Sealed(api.Sector{}) {
		t.Error("a sector of zeros is sealed")
	}
	s := crc.Seal(api.Sector{})
	if !bytes.Equal(s[:60], make([]byte, 60)) || bytes.Equal(s[60:], make([]byte, 4)) {
		t.Errorf("Seal of a sector of zeros: % x", s)
	}
}
