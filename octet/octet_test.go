package octet_test

import (
	"bytes"
	"math"
	"testing"

	"assay/api"
	"assay/octet"
)

// filled has no two equal bytes and none that is 0, so that a byte read at a wrong place shows.
func filled() api.Sector {
	var s api.Sector
	for i := range s {
		s[i] = byte(3*i + 1)
	}
	return s
}

// places are all near a sector, and the ones at which a sum with a length wraps round.
func places() []int {
	l := []int{
		math.MinInt, math.MinInt + 1, math.MinInt + 64, -1 << 32,
		1 << 32, math.MaxInt - 64, math.MaxInt - 3, math.MaxInt - 1, math.MaxInt,
	}
	for at := -70; at <= 140; at++ {
		l = append(l, at)
	}
	return l
}

// inside says by places alone which ranges are within, without a sum that could wrap round.
func inside(at, n int) bool {
	return at >= 0 && at <= 64 && n >= 0 && n <= 64 && at+n <= 64
}

// read is the number of n bytes from at on, by multiplying up from its highest byte.
func read(s api.Sector, at, n int) uint64 {
	if !inside(at, n) {
		return 0
	}
	var v uint64
	for i := n - 1; i >= 0; i-- {
		v = v*256 + uint64(s[at+i])
	}
	return v
}

// laid is the sector s with b from at on, byte by byte; s, if that isn't within.
func laid(s api.Sector, at int, b ...byte) api.Sector {
	if !inside(at, len(b)) {
		return s
	}
	for i, c := range b {
		s[at+i] = c
	}
	return s
}

// P1.1
func TestNumbersAreReadLowestByteFirst(t *testing.T) {
	s := filled()
	for _, at := range places() {
		if got, want := uint64(octet.U16(s, at)), read(s, at, 2); got != want {
			t.Errorf("U16 at %d: %d, want %d", at, got, want)
		}
		if got, want := uint64(octet.U32(s, at)), read(s, at, 4); got != want {
			t.Errorf("U32 at %d: %d, want %d", at, got, want)
		}
	}
}

// P1.1
func TestNumbersOfTheExamples(t *testing.T) {
	s := octet.PutU16(api.Sector{}, 2, 513)
	if s != (api.Sector{2: 1, 3: 2}) {
		t.Fatalf("PutU16(s, 2, 513): %v", s)
	}
	for at, want := range []uint16{0, 256, 513, 2, 0} {
		if got := octet.U16(s, at); got != want {
			t.Errorf("U16 at %d: %d, want %d", at, got, want)
		}
	}
	if got := octet.U32(s, 0); got != 33619968 {
		t.Errorf("U32 at 0: %d", got)
	}
	if octet.U16(filled(), 63) != 0 || octet.U32(filled(), -1) != 0 {
		t.Error("a number outside of the sector is not 0")
	}
}

// P1.1
func TestGreatestNumbersAreRead(t *testing.T) {
	var s api.Sector
	for i := range s {
		s[i] = 255
	}
	if octet.U16(s, 62) != math.MaxUint16 || octet.U32(s, 60) != math.MaxUint32 {
		t.Error("the greatest numbers at the end")
	}
	if octet.U16(s, 63) != 0 || octet.U32(s, 61) != 0 {
		t.Error("a number that reaches over the end is not 0")
	}
}

// P1.2
func TestBytesAreThoseOfTheRange(t *testing.T) {
	s := filled()
	for _, at := range places() {
		for _, n := range places() {
			var want []byte
			if inside(at, n) {
				want = s[at : at+n]
			}
			if got := octet.Bytes(s, at, n); !bytes.Equal(got, want) {
				t.Fatalf("Bytes(%d, %d): %v, want %v", at, n, got, want)
			}
		}
	}
}

// P1.2, P2
func TestBytesAreNewMemory(t *testing.T) {
	s := filled()
	a, b := octet.Bytes(s, 8, 4), octet.Bytes(s, 8, 4)
	a[0] = 0
	_ = append(a[:1], 0, 0, 0, 0)
	if !bytes.Equal(b, []byte{25, 28, 31, 34}) || s != filled() {
		t.Errorf("a write into what was answered is seen: %v, %v", b, s)
	}
}

// P1.3
func TestNumbersArePutLowestByteFirst(t *testing.T) {
	s := filled()
	for _, at := range places() {
		if got := octet.PutU16(s, at, 0xFDFE); got != laid(s, at, 0xFE, 0xFD) {
			t.Errorf("PutU16 at %d: %v", at, got)
		}
		if got := octet.PutU32(s, at, 0xFBFCFDFE); got != laid(s, at, 0xFE, 0xFD, 0xFC, 0xFB) {
			t.Errorf("PutU32 at %d: %v", at, got)
		}
	}
	if s != filled() {
		t.Error("the sector that was handed in is another")
	}
}

// P1.3
func TestPutAtTheEdges(t *testing.T) {
	var s api.Sector
	if got := octet.PutU32(s, 60, 1); got != (api.Sector{60: 1}) {
		t.Errorf("PutU32 at 60: %v", got)
	}
	if octet.PutU32(s, 61, 1) != s || octet.PutU16(s, 63, 1) != s || octet.PutU16(s, -1, 256) != s {
		t.Error("a number over an edge is put")
	}
	if got := octet.PutBytes(s, 62, []byte{7, 8}); got != (api.Sector{62: 7, 63: 8}) {
		t.Errorf("PutBytes at 62: %v", got)
	}
	if octet.PutBytes(s, 62, []byte{7, 8, 9}) != s {
		t.Error("bytes over the end are put in part")
	}
}

// P1.3
func TestBytesArePut(t *testing.T) {
	s := filled()
	long := bytes.Repeat([]byte{0xEE}, 66)
	for _, at := range places() {
		for n := range len(long) + 1 {
			if got := octet.PutBytes(s, at, long[:n]); got != laid(s, at, long[:n]...) {
				t.Fatalf("PutBytes of %d bytes at %d: %v", n, at, got)
			}
		}
	}
	if octet.PutBytes(s, 0, nil) != s || octet.PutBytes(s, 64, nil) != s {
		t.Error("no bytes change the sector")
	}
	if s != filled() {
		t.Error("the sector that was handed in is another")
	}
}

// P1.3, P2
func TestPutBytesLeavesWhatItIsHanded(t *testing.T) {
	s := filled()
	room := []byte{1, 2, 3, 4, 5, 6}
	got := octet.PutBytes(s, 10, room[1:3])
	if !bytes.Equal(room, []byte{1, 2, 3, 4, 5, 6}) {
		t.Errorf("the list or its room is another: %v", room)
	}
	room[1], room[2] = 99, 99
	if got != laid(s, 10, 2, 3) {
		t.Errorf("what was handed in is kept: %v", got)
	}
	own := filled()
	if moved := octet.PutBytes(own, 1, own[:63]); moved != laid(filled(), 1, own[:63]...) || own != filled() {
		t.Errorf("a sector's own bytes put into it: %v", moved)
	}
}

// P1.4
func TestZero(t *testing.T) {
	if !octet.Zero(api.Sector{}) {
		t.Error("zeros are not zero")
	}
	for i := range api.SectorSize {
		for _, c := range []byte{1, 128, 255} {
			if octet.Zero(laid(api.Sector{}, i, c)) {
				t.Errorf("a sector with %d at %d is zero", c, i)
			}
		}
	}
}

// P1.4
func TestZeroFromLooksAtItsPartAlone(t *testing.T) {
	for i := range api.SectorSize {
		s := laid(api.Sector{}, i, 128)
		for from := range api.SectorSize + 1 {
			for to := from; to <= api.SectorSize; to++ {
				want := i < from || i >= to
				if octet.ZeroFrom(s, from, to) != want {
					t.Fatalf("ZeroFrom(%d, %d) with a byte at %d is not %v", from, to, i, want)
				}
			}
		}
	}
}

// P1.4
func TestZeroFromOfWrongPlaces(t *testing.T) {
	var zeros api.Sector
	for _, from := range places() {
		for _, to := range places() {
			want := from >= 0 && from <= to && to <= 64
			if octet.ZeroFrom(zeros, from, to) != want {
				t.Fatalf("ZeroFrom(%d, %d) of zeros is not %v", from, to, want)
			}
		}
	}
	for at := range api.SectorSize + 1 {
		if !octet.ZeroFrom(filled(), at, at) {
			t.Errorf("ZeroFrom(%d, %d) is false", at, at)
		}
	}
}

// P1.5
func TestWhatIsPutIsRead(t *testing.T) {
	for _, s := range []api.Sector{{}, filled()} {
		for at := range api.SectorSize - 1 {
			for _, v := range []uint16{0, 1, 255, 256, 0x1234, 0x8000, math.MaxUint16} {
				if got := octet.U16(octet.PutU16(s, at, v), at); got != v {
					t.Errorf("U16 at %d: %d, was put as %d", at, got, v)
				}
			}
		}
		for at := range api.SectorSize - 3 {
			for _, v := range []uint32{0, 1, 1 << 16, 0x12345678, 0x80000000, math.MaxUint32} {
				if got := octet.U32(octet.PutU32(s, at, v), at); got != v {
					t.Errorf("U32 at %d: %d, was put as %d", at, got, v)
				}
			}
		}
	}
}

// P1.5
func TestBytesThatArePutAreReadAndOthersStay(t *testing.T) {
	s := filled()
	long := bytes.Repeat([]byte{0xEE, 0xDD}, 32)
	for at := range api.SectorSize + 1 {
		for n := range api.SectorSize - at + 1 {
			got := octet.PutBytes(s, at, long[:n])
			if !bytes.Equal(octet.Bytes(got, at, n), long[:n]) {
				t.Fatalf("%d bytes at %d are not read as put", n, at)
			}
			ahead, behind := octet.Bytes(got, 0, at), octet.Bytes(got, at+n, api.SectorSize-at-n)
			if !bytes.Equal(ahead, s[:at]) || !bytes.Equal(behind, s[at+n:]) {
				t.Fatalf("%d bytes at %d change others", n, at)
			}
		}
	}
}
