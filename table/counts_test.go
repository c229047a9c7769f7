package table_test

import (
	"encoding/binary"
	"math"
	"math/rand"
	"slices"
	"testing"

	"assay/api"
	"assay/table"
)

// toldCounts is the sector of up to fifteen numbers as the chapter tells it.
func toldCounts(l []uint32) api.Sector {
	var s api.Sector
	for i, v := range l {
		binary.LittleEndian.PutUint32(s[4*i:], v)
	}
	return sum(s)
}

// readCounts says what GetCounts should, number by number.
func readCounts(s api.Sector, n int) ([]uint32, bool) {
	if n < 0 {
		n = 0
	}
	if n > 15 {
		n = 15
	}
	if s != sum(s) || !zeros(s[4*n:60]) {
		return nil, false
	}
	var l []uint32
	for i := range n {
		l = append(l, binary.LittleEndian.Uint32(s[4*i:]))
	}
	return l, true
}

// checkGetCounts holds GetCounts against the chapter's words, and PutCounts of a right answer against the sector.
func checkGetCounts(t *testing.T, s api.Sector, n int) {
	t.Helper()
	want, right := readCounts(s, n)
	l, ok := table.GetCounts(s, n)
	if !slices.Equal(l, want) || ok != right {
		t.Fatalf("GetCounts(% x, %d): %v, %v, want %v, %v", s, n, l, ok, want, right)
	}
	if !ok {
		return
	}
	if r, e := table.PutCounts(l); r != s || e != api.OK {
		t.Fatalf("% x with %d back: % x, %d", s, n, r, e)
	}
}

// checkPutCounts holds PutCounts against the chapter's words, and GetCounts of what it answers against the list.
func checkPutCounts(t *testing.T, l []uint32) {
	t.Helper()
	s, e := table.PutCounts(l)
	if len(l) > 15 {
		if s != (api.Sector{}) || e != api.ErrLong {
			t.Fatalf("PutCounts of %d: % x, %d, want zeros, ErrLong", len(l), s, e)
		}
		return
	}
	if want := toldCounts(l); s != want || e != api.OK {
		t.Fatalf("PutCounts(%v): % x, %d, want % x", l, s, e, want)
	}
	if g, ok := table.GetCounts(s, len(l)); !slices.Equal(g, l) || !ok {
		t.Fatalf("%v there and back: %v, %v", l, g, ok)
	}
}

// numbers is every n from below 0 to above 15, and some far off; of some the lowest 8, 16 or 32 bits are those of one between.
func numbers() []int {
	l := []int{math.MinInt, math.MinInt + 1, math.MinInt + 3, math.MinInt32, -1<<32 + 3, -1<<16 + 3, -256 + 3, -15, 99, 255, 256, 256 + 3, 1<<16 + 3, 1 << 31, 1<<32 + 3, 1 << 62, math.MaxInt - 3, math.MaxInt}
	for n := -5; n <= 20; n++ {
		l = append(l, n)
	}
	return l
}

// counting is the numbers from first on, n of them.
func counting(first uint32, n int) []uint32 {
	l := make([]uint32, n)
	for i := range l {
		l[i] = first + uint32(i)
	}
	return l
}

// lists is lists of counts: of every length up to fifteen, with small, great and no numbers, and with one that is not 0 at each place.
func lists() [][]uint32 {
	var l [][]uint32
	for n := 0; n <= 15; n++ {
		l = append(l, make([]uint32, n), counting(1, n), counting(0x01020304, n), counting(math.MaxUint32-14, n))
	}
	for at := range 15 {
		for _, v := range []uint32{1, 1 << 8, 1 << 16, 1 << 24, 1 << 31, math.MaxUint32} {
			one := make([]uint32, 15)
			one[at] = v
			l = append(l, one, one[:at+1])
		}
	}
	return l
}

// P17.3, P17.4: lists of every kind laid, and read with every n.
func TestListsWithEveryN(t *testing.T) {
	for _, l := range lists() {
		checkPutCounts(t, l)
		for _, n := range numbers() {
			checkGetCounts(t, toldCounts(l), n)
		}
	}
	if s, e := table.PutCounts(nil); s != sum(api.Sector{}) || e != api.OK {
		t.Errorf("none: % x, %d", s, e)
	}
}

// P17.3: a number behind the first n that is not 0, at each place, by one bit.
func TestANumberBehindTheFirst(t *testing.T) {
	for n := -1; n <= 16; n++ {
		for bit := range 480 {
			s := sum(turned(api.Sector{}, bit, 1))
			l, ok := table.GetCounts(s, n)
			if want := bit/32 < n; ok != want {
				t.Fatalf("the bit %d with %d: %v, %v", bit, n, l, ok)
			}
			if !ok && len(l) != 0 || ok && l[bit/32] != 1<<(bit%32) {
				t.Fatalf("the bit %d with %d: %v", bit, n, l)
			}
		}
	}
}

// P17.3: how many are answered hangs on n alone.
func TestHowManyAreAnswered(t *testing.T) {
	for _, n := range numbers() {
		l, ok := table.GetCounts(sum(api.Sector{}), n)
		if len(l) != min(max(n, 0), 15) || !ok {
			t.Errorf("%d: %v, %v", n, l, ok)
		}
	}
}

// P17.3, P3: zeros, and each other sector without its sum, is torn for every n.
func TestWithoutTheSum(t *testing.T) {
	bad := []api.Sector{{}, {60: 1}, {0: 1}, turned(toldCounts(counting(1, 15)), 511, 1)}
	for _, s := range oddSectors() {
		if s != sum(s) {
			bad = append(bad, s)
		}
	}
	back := toldCounts(counting(1, 3))
	slices.Reverse(back[60:])
	for _, s := range append(bad, back) {
		for _, n := range numbers() {
			if l, ok := table.GetCounts(s, n); len(l) != 0 || ok {
				t.Errorf("% x with %d: %v, %v", s, n, l, ok)
			}
		}
	}
}

// P17.3: sixteen and more; of some the lowest 8 or 16 bits are those of a number that may be. What stands in them is not asked.
func TestTooManyCounts(t *testing.T) {
	for _, n := range []int{16, 17, 20, 30, 31, 32, 255, 256, 257, 256 + 15, 1 << 16, 1<<16 + 3, 1 << 20} {
		checkPutCounts(t, make([]uint32, n))
		checkPutCounts(t, counting(7, n))
	}
}

// P17.3, P17.5: each byte of a sector another, in each way, with the sum as it was and with the sum made right.
func TestEachByteOfCountsIsAnother(t *testing.T) {
	for _, l := range [][]uint32{nil, {1, 256}, counting(0x01020304, 7), counting(1, 15), slices.Repeat([]uint32{math.MaxUint32}, 15)} {
		changed(toldCounts(l), func(s api.Sector, at int) {
			for _, n := range []int{-1, 0, 1, 2, 7, 8, 14, 15, 16} {
				if g, ok := table.GetCounts(s, n); len(g) != 0 || ok {
					t.Fatalf("%v with byte %d turned, %d: %v", l, at, n, g)
				}
				checkGetCounts(t, sum(s), n)
			}
		})
	}
}

// P17.3, P17.4: counts by chance, there and back both ways.
func TestCountsByChance(t *testing.T) {
	r := rand.New(rand.NewSource(10))
	for range 60000 {
		l := make([]uint32, r.Intn(18))
		for i := range l {
			l[i] = r.Uint32() >> r.Intn(33)
		}
		checkPutCounts(t, l)
		checkGetCounts(t, toldCounts(l[:min(len(l), 15)]), r.Intn(18)-1)
	}
}

// P17.5
func TestNoBurstLeavesCounts(t *testing.T) {
	r := rand.New(rand.NewSource(11))
	for _, l := range [][]uint32{nil, {1, 256}, make([]uint32, 15), counting(1, 8), slices.Repeat([]uint32{math.MaxUint32}, 15)} {
		s, e := table.PutCounts(l)
		if e != api.OK {
			t.Fatalf("%v: %d", l, e)
		}
		bursts(s, r, func(b api.Sector) {
			for _, n := range []int{0, len(l), 15} {
				if g, ok := table.GetCounts(b, n); len(g) != 0 || ok {
					t.Fatalf("%v: % x with %d: %v", l, b, n, g)
				}
			}
		})
	}
}
