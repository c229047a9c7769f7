package image_test

import (
	"math/rand"
	"slices"
	"testing"

	"assay/api"
	"assay/geom"
	"assay/image"
)

// sizes is disks of the least and the greatest size, and of some between: at the edges of the bitmap's and the counts' sectors too.
func sizes() []int {
	return []int{64, 65, 71, 72, 79, 80, 119, 120, 127, 128, 240, 248, 321, 479, 480, 481, 512, 959, 960, 961, 1000, 1016, 1023, 1024}
}

// noise is a disk of any bytes but for its mark, which is empty.
func noise(r *rand.Rand, n int) []api.Sector {
	l := make([]api.Sector, n)
	for i := range l {
		r.Read(l[i][:])
	}
	l[2] = api.Sector{}
	return l
}

// keyOf is a key whose bytes are all the same.
func keyOf(v byte) api.Digest {
	var k api.Digest
	for i := range k {
		k[i] = v
	}
	return k
}

// flipped is a sector with the bit i turned (of byte k bit b is the bit 8 k + b).
func flipped(s api.Sector, i int) api.Sector {
	s[i/8] ^= 1 << (i % 8)
	return s
}

// P18.1 to P18.6: the chapter's example of zeros.
func TestTheExampleOfZeros(t *testing.T) {
	m := check(t, make([]api.Sector, 64))
	if m.N() != 64 || m.Mark() != empty || m.Super(0) || m.Super(1) {
		t.Error(m.N(), m.Mark(), m.Super(0), m.Super(1))
	}
	if e, kind := m.Entry(0); e != (api.Entry{}) || kind != free {
		t.Errorf("Entry(0): %v, %d", e, kind)
	}
	if e, kind := m.Entry(8); e != (api.Entry{}) || kind != 0 {
		t.Errorf("Entry(8): %v, %d", e, kind)
	}
	if !slices.Equal(m.Counts(), []int{0}) || !slices.Equal(m.Bitmaps(), []int{0}) {
		t.Error(m.Counts(), m.Bitmaps())
	}
	if v, ok := m.Count(3); v != 0 || ok {
		t.Errorf("Count(3): %d, %v", v, ok)
	}
	if b, ok := m.Bit(5); b || ok {
		t.Errorf("Bit(5): %v, %v", b, ok)
	}
}

// P18.1, P18.2: the chapter's examples of a mark; its sums are written out, so that they hang on no call.
func TestTheExamplesOfAMark(t *testing.T) {
	l := make([]api.Sector, 64)
	l[3] = api.Sector{1, 2, 3, 63: 9}
	l[2] = api.Sector{0x4A, 0x4D, 1, 0, 20, 0, 20: 0x6E, 0x05, 0x5F, 0x23, 60: 0x8C, 0x80, 0x56, 0x7C}
	m := check(t, l)
	if m.Mark() != committed || m.Sector(20) != l[3] || m.Sector(2) != (api.Sector{}) || m.Sector(3) != l[3] {
		t.Errorf("%d, % x, % x", m.Mark(), m.Sector(20), m.Sector(2))
	}
	for i := range 512 {
		x := slices.Clone(l)
		x[2] = flipped(x[2], i)
		m := made(t, x)
		if m.Mark() != rubbish || m.Sector(20) != (api.Sector{}) || m.Sector(2) != x[2] || !slices.Equal(m.Sectors(), x) {
			t.Fatalf("the bit %d: %d, % x, % x", i, m.Mark(), m.Sector(20), m.Sector(2))
		}
	}
}

// P18.1: every number of sectors that is near to one that a disk has; what the sectors hold is no matter.
func TestHowManySectors(t *testing.T) {
	for n := range 1100 {
		for _, l := range [][]api.Sector{make([]api.Sector, n), noise(rand.New(rand.NewSource(int64(n))), max(n, 3))[:n]} {
			m, e := image.Of(l)
			if n < 64 || n > 1024 {
				if m != nil || e != api.ErrSize {
					t.Fatalf("%d: %v, %d", n, m, e)
				}
				continue
			}
			g, _ := geom.Of(n)
			if m == nil || e != api.OK || m.N() != n || m.Geom() != g || g.N != n {
				t.Fatalf("%d: %v, %d", n, m, e)
			}
		}
	}
	for _, l := range [][]api.Sector{nil, {}, make([]api.Sector, 63, 64), make([]api.Sector, 2048), make([]api.Sector, 1<<16+64)} {
		if m, e := image.Of(l); m != nil || e != api.ErrSize {
			t.Errorf("%d: %v, %d", len(l), m, e)
		}
	}
}

// P18.1: the tables lie where the chapter on places says it.
func TestThePlaces(t *testing.T) {
	for _, n := range sizes() {
		p := placesOf(n)
		got := made(t, make([]api.Sector, n)).Geom()
		want := geom.Geom{
			N: n, Bitmap: p.bitmap, Bitmaps: p.bitmaps, Dir: p.dir, Slots: p.slots, Tag: p.tag, Tags: p.tags,
			Snap: p.snap, Snaps: p.snaps, Count: p.count, Counts: p.counts, Data: p.data, Room: n / 8 / 4,
		}
		if got != want {
			t.Errorf("%d: %v, want %v", n, got, want)
		}
	}
}

// P1: every method of a nil image.
func TestNil(t *testing.T) {
	var m *image.Image
	if m.N() != 0 || m.Geom() != (geom.Geom{}) || m.Mark() != 0 || len(m.Sectors()) != 0 || len(m.Counts()) != 0 || len(m.Bitmaps()) != 0 {
		t.Error(m.N(), m.Geom(), m.Mark(), m.Sectors(), m.Counts(), m.Bitmaps())
	}
	for _, i := range around(30) {
		if m.Sector(i) != (api.Sector{}) || m.Super(i) {
			t.Errorf("%d: % x, %v", i, m.Sector(i), m.Super(i))
		}
		if e, kind := m.Entry(i); e != (api.Entry{}) || kind != 0 {
			t.Errorf("Entry(%d): %v, %d", i, e, kind)
		}
		if x, kind := m.Tag(i); x != (api.Tag{}) || kind != 0 {
			t.Errorf("Tag(%d): %v, %d", i, x, kind)
		}
		if x, kind := m.Snap(i); x != (api.Snap{}) || kind != 0 {
			t.Errorf("Snap(%d): %v, %d", i, x, kind)
		}
		if v, ok := m.Count(i); v != 0 || ok {
			t.Errorf("Count(%d): %d, %v", i, v, ok)
		}
		if b, ok := m.Bit(i); b || ok {
			t.Errorf("Bit(%d): %v, %v", i, b, ok)
		}
		for _, e := range []api.Entry{{}, {State: 1}, {State: 2, Start: i, Length: 1}, {State: 1, Start: 29, Length: i}} {
			if b := m.Bytes(e); len(b) != 0 {
				t.Errorf("Bytes(%v): % x", e, b)
			}
		}
	}
}

// P18.3: each of the two by itself, of this size and of others.
func TestSuperblocks(t *testing.T) {
	for _, n := range sizes() {
		for _, other := range []int{0, n, n - 1, n + 1, n ^ 256, n + 1<<16, n + 1<<24, 64 + 1024 - n} {
			for place := range 4 {
				l := make([]api.Sector, n)
				l[place] = superOf(other)
				m := check(t, l)
				for i := range 4 {
					want := i == place && place < 2 && other == n
					if m.Super(i) != want {
						t.Fatalf("the superblock of %d at %d of %d sectors: Super(%d): %v", other, place, n, i, !want)
					}
				}
			}
		}
	}
}

// P18.3: a superblock with one bit turned is none, the other one of the two is no help.
func TestSpoiltSuperblocks(t *testing.T) {
	for i := range 512 {
		for place := range 2 {
			l := make([]api.Sector, 100)
			l[0], l[1] = superOf(100), superOf(100)
			l[place] = flipped(l[place], i)
			m := made(t, l)
			if m.Super(place) || !m.Super(1-place) {
				t.Fatalf("the bit %d of %d: %v, %v", i, place, m.Super(0), m.Super(1))
			}
		}
	}
}

// P18.1 to P18.7, P1: disks that hold anything, all but the mark without sense.
func TestNoise(t *testing.T) {
	r := rand.New(rand.NewSource(2))
	for _, n := range sizes() {
		l := noise(r, n)
		m := check(t, l)
		p := placesOf(n)
		if len(m.Counts()) != p.counts || len(m.Bitmaps()) != p.bitmaps {
			t.Errorf("%d: %v, %v", n, m.Counts(), m.Bitmaps())
		}
		r.Read(l[2][:])
		if m := check(t, l); m.Mark() != rubbish {
			t.Errorf("%d: %d", n, m.Mark())
		}
		for i := range l {
			for k := range l[i] {
				l[i][k] = 0xFF
			}
		}
		check(t, l)
	}
}
