package image_test

import (
	"encoding/binary"
	"math"
	"slices"
	"testing"

	"assay/api"
)

// countsOf is the sector of up to fifteen counts.
func countsOf(l ...uint32) api.Sector {
	var s api.Sector
	for i, v := range l {
		binary.LittleEndian.PutUint32(s[4*i:], v)
	}
	return sum(s)
}

// bitmapOf is the bitmap's sectors with these bits 1, be they a sector's or not.
func bitmapOf(n int, ones ...int) []api.Sector {
	l := make([]api.Sector, (n+479)/480)
	for _, i := range ones {
		s := &l[min(i/480, len(l)-1)]
		i -= 480 * min(i/480, len(l)-1)
		s[i/8] |= 1 << (i % 8)
	}
	for k := range l {
		l[k] = sum(l[k])
	}
	return l
}

// counted is a disk whose counts are all there and unlike each other.
func counted(n int) []api.Sector {
	p := placesOf(n)
	l := make([]api.Sector, n)
	for k := range p.counts {
		var own []uint32
		for i := 15 * k; i < min(15*k+15, p.slots); i++ {
			own = append(own, countIn(i))
		}
		l[p.count+k] = countsOf(own...)
	}
	return l
}

// countIn is the count of a slot in counted.
func countIn(slot int) uint32 { return math.MaxUint32 - uint32(1000003*slot) }

// P18.5: all counts are there; then each sector of counts is torn, alone and with others.
func TestCounts(t *testing.T) {
	for _, n := range sizes() {
		p := placesOf(n)
		l := counted(n)
		m := check(t, l)
		if len(m.Counts()) != 0 {
			t.Errorf("%d sectors: %v", n, m.Counts())
		}
		for i := range p.slots {
			if v, ok := m.Count(i); v != countIn(i) || !ok {
				t.Fatalf("%d sectors: Count(%d): %d, %v", n, i, v, ok)
			}
		}
		for k := range p.counts {
			x := slices.Clone(l)
			x[p.count+k] = flipped(x[p.count+k], 511-k)
			m := check(t, x)
			if !slices.Equal(m.Counts(), []int{k}) {
				t.Errorf("%d sectors, %d torn: %v", n, k, m.Counts())
			}
			for i := range p.slots {
				want, readable := countIn(i), true
				if i/15 == k {
					want, readable = 0, false
				}
				if v, ok := m.Count(i); v != want || ok != readable {
					t.Fatalf("%d sectors, %d torn: Count(%d): %d, %v", n, k, i, v, ok)
				}
			}
		}
		for set := range 1 << p.counts {
			x := slices.Clone(l)
			var want []int
			for k := range p.counts {
				if set>>k&1 == 1 {
					x[p.count+k] = api.Sector{}
					want = append(want, k)
				}
			}
			if m := made(t, x); !slices.Equal(m.Counts(), want) {
				t.Fatalf("%d sectors: %v, want %v", n, m.Counts(), want)
			}
		}
	}
}

// P18.5: a number that is not 0 for a slot that there isn't, in each place of the last sector.
func TestCountsBehindTheLastSlot(t *testing.T) {
	for n := 64; n <= 1024; n += 8 {
		p := placesOf(n)
		l := counted(n)
		last := p.counts - 1
		used := p.slots - 15*last
		for i := range 15 {
			for _, v := range []uint32{0, 1, 1 << 31} {
				x := slices.Clone(l)
				binary.LittleEndian.PutUint32(x[p.count+last][4*i:], v)
				x[p.count+last] = sum(x[p.count+last])
				m := made(t, x)
				if i >= used && v != 0 {
					if !slices.Equal(m.Counts(), []int{last}) {
						t.Fatalf("%d sectors, %d at %d: %v", n, v, i, m.Counts())
					}
					continue
				}
				if len(m.Counts()) != 0 {
					t.Fatalf("%d sectors, %d at %d: %v", n, v, i, m.Counts())
				}
				if got, ok := m.Count(15*last + i); i < used && got != v || ok != (i < used) {
					t.Fatalf("%d sectors, %d at %d: %d, %v", n, v, i, got, ok)
				}
			}
		}
	}
}

// P18.6: each bit alone.
func TestEachBit(t *testing.T) {
	for _, n := range []int{64, 65, 480, 481, 1023, 1024} {
		for one := range n {
			l := make([]api.Sector, n)
			copy(l[11:], bitmapOf(n, one))
			m := made(t, l)
			for i := range n {
				if b, ok := m.Bit(i); b != (i == one) || !ok {
					t.Fatalf("%d sectors, %d: Bit(%d): %v, %v", n, one, i, b, ok)
				}
			}
			if len(m.Bitmaps()) != 0 {
				t.Fatalf("%d sectors: %v", n, m.Bitmaps())
			}
		}
	}
}

// P18.6: all bits 1; then any of the bitmap's sectors torn.
func TestTornBitmaps(t *testing.T) {
	for _, n := range sizes() {
		var all []int
		for i := range n {
			all = append(all, i)
		}
		p := placesOf(n)
		for set := range 1 << p.bitmaps {
			l := make([]api.Sector, n)
			copy(l[11:], bitmapOf(n, all...))
			var want []int
			for k := range p.bitmaps {
				if set>>k&1 == 1 {
					l[11+k] = flipped(l[11+k], 170*k)
					want = append(want, k)
				}
			}
			m := check(t, l)
			if !slices.Equal(m.Bitmaps(), want) {
				t.Fatalf("%d sectors: %v, want %v", n, m.Bitmaps(), want)
			}
			for i := range n {
				whole := set>>(i/480)&1 == 0
				if b, ok := m.Bit(i); b != whole || ok != whole {
					t.Fatalf("%d sectors, torn %v: Bit(%d): %v, %v", n, want, i, b, ok)
				}
			}
		}
	}
}

// P18.6: a bit of a sector that there isn't makes the last one torn, and no other.
func TestBitsBehindTheDisk(t *testing.T) {
	for _, n := range sizes() {
		last := placesOf(n).bitmaps - 1
		for i := 480 * last; i < 480*last+480; i++ {
			l := make([]api.Sector, n)
			copy(l[11:], bitmapOf(n, i, 0))
			m := made(t, l)
			b, ok := m.Bit(i)
			if i < n && (len(m.Bitmaps()) != 0 || !b || !ok) {
				t.Fatalf("%d sectors, %d: %v, %v, %v", n, i, m.Bitmaps(), b, ok)
			}
			if i >= n && (!slices.Equal(m.Bitmaps(), []int{last}) || b || ok) {
				t.Fatalf("%d sectors, %d: %v, %v, %v", n, i, m.Bitmaps(), b, ok)
			}
		}
	}
}
