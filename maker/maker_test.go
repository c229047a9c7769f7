package maker_test

import (
	"math"
	"slices"
	"testing"

	"assay/api"
	"assay/maker"
)

// P29.1: numbers of sectors that no disk has.
func TestNoDisk(t *testing.T) {
	for _, n := range []int{0, 1, -1, -63, -64, -65, -1024, 2, 11, 29, 62, 63, 1025, 1026, 2048, 65536 + 64, 1<<32 + 64, math.MaxInt, math.MinInt, math.MinInt + 64} {
		if m, e := maker.New(n); m != nil || e != api.ErrSize {
			t.Errorf("New(%d): %v, %d", n, m, e)
		}
	}
}

// P29.1, P29.5: every number of sectors that a disk has: an empty store.
func TestEmptyStores(t *testing.T) {
	for n := 64; n <= 1024; n++ {
		p := made(t, n)
		p.same()
		if n%50 == 0 || slices.Contains(sizes(), n) {
			p.check()
		}
	}
}

// P1: every method of a nil Maker answers zero values and does nothing.
func TestNil(t *testing.T) {
	var m *maker.Maker
	for _, l := range [][][]byte{nil, {}, {nil}, {[]byte("abc")}, {[]byte("abc"), make([]byte, 4097)}, {make([]byte, 4097)}} {
		if keys, e := m.Put(l...); len(keys) != 0 || e != api.OK {
			t.Errorf("Put: %v, %d", keys, e)
		}
	}
	for _, s := range []string{"", "v1", "a b"} {
		if e := m.Tag(s, keyOf("abc")); e != api.OK {
			t.Errorf("Tag(%q): %d", s, e)
		}
	}
	for _, s := range []api.Snap{{}, {ID: 1}, {ID: 1, Parent: 1, Layer: keyOf("abc")}} {
		if e := m.Snap(s); e != api.OK {
			t.Errorf("Snap(%v): %d", s, e)
		}
	}
	if l := m.Sectors(); len(l) != 0 {
		t.Errorf("Sectors: %d of them", len(l))
	}
}

// P29.5: the chapter's last example: the sectors of New(64) alone.
func TestExampleOfNothing(t *testing.T) {
	want := make([]api.Sector, 64)
	want[0], want[1] = superOf(64), superOf(64)
	want[11] = summed(api.Sector{0xFF, 0xFF, 0xFF, 0x1F})
	want[28] = summed(api.Sector{})
	m, e := maker.New(64)
	if e != api.OK || !slices.Equal(m.Sectors(), want) {
		t.Errorf("%d, %v", e, m.Sectors())
	}
}

// P29.2 to P29.4: the chapter's other examples, one behind the other; the disk is written out.
func TestExamples(t *testing.T) {
	p := made(t, 64)
	abc, long := "abc", text(1, 65)
	p.put(api.OK, abc)
	p.put(api.OK, long)
	was := p.m.Sectors()
	if keys := p.put(api.OK, abc, abc); !slices.Equal(keys, []api.Digest{keyOf(abc), keyOf(abc)}) || !slices.Equal(p.m.Sectors(), was) {
		t.Errorf("abc twice: %v", keys)
	}
	p.put(api.OK, "")
	p.pin(api.OK, "v1", keyOf(abc))
	p.pin(api.ErrTwice, "v1", keyOf(abc))
	p.pin(api.ErrEmpty, "v2", keyOf("def"))
	p.shoot(api.OK, 1, 0, keyOf(long))
	p.shoot(api.ErrEmpty, 2, 9, keyOf(long))
	want := make([]api.Sector, 64)
	want[0], want[1] = superOf(64), superOf(64)
	want[11] = summed(api.Sector{0xFF, 0xFF, 0xFF, 0xFF})
	want[12] = entryOf(29, 3, keyOf(abc))
	want[13] = entryOf(30, 65, keyOf(long))
	want[14] = entryOf(0, 0, keyOf(""))
	want[20] = tagOf(api.Tag{Name: "v1", Key: keyOf(abc)})
	want[24] = snapOf(api.Snap{ID: 1, Layer: keyOf(long)})
	want[28] = summed(api.Sector{})
	copy(want[29][:], abc)
	copy(want[30][:], long)
	copy(want[31][:], long[64:])
	if got := p.m.Sectors(); !slices.Equal(got, want) {
		t.Errorf("%x", got)
	}
	p.check()
}
