package table_test

import (
	"encoding/binary"
	"hash/crc32"
	"math"
	"math/rand"
	"slices"
	"strings"
	"testing"

	"assay/api"
	"assay/table"
)

// sum is the sector with the library's sum of its first 60 bytes behind them.
func sum(s api.Sector) api.Sector {
	binary.LittleEndian.PutUint32(s[60:], crc32.ChecksumIEEE(s[:60]))
	return s
}

// zeros tells whether all bytes are 0.
func zeros(b []byte) bool {
	for _, v := range b {
		if v != 0 {
			return false
		}
	}
	return true
}

// anyKey is a key of which no byte is another's.
func anyKey() api.Digest {
	var k api.Digest
	for i := range k {
		k[i] = byte(i + 1)
	}
	return k
}

// keyOf is a key whose bytes are all the same.
func keyOf(v byte) api.Digest {
	var k api.Digest
	for i := range k {
		k[i] = v
	}
	return k
}

// turned is s with the bits of pattern turned, its lowest one at the bit at (of byte k bit b is the bit 8 k + b).
func turned(s api.Sector, at int, pattern uint32) api.Sector {
	for i := range 32 {
		if pattern>>i&1 == 1 {
			s[(at+i)/8] ^= 1 << ((at + i) % 8)
		}
	}
	return s
}

// bursts hands on s with one to 32 bits in a row turned, at every place: their ends alone, all of them, some by chance.
func bursts(s api.Sector, r *rand.Rand, each func(api.Sector)) {
	for at := range 512 {
		for long := 1; long <= 32 && at+long <= 512; long++ {
			all := uint32(1<<long - 1)
			ends := uint32(1 | 1<<(long-1))
			for _, p := range []uint32{all, ends, ends | r.Uint32()&all} {
				each(turned(s, at, p))
			}
		}
	}
}

// changed hands on s with each of its bytes another, in each way, and the byte's place.
func changed(s api.Sector, each func(x api.Sector, at int)) {
	for at := range s {
		for v := 1; v < 256; v++ {
			x := s
			x[at] ^= byte(v)
			each(x, at)
		}
	}
}

// oddSectors is sectors that are neither a tag's nor a snapshot's, all but the first few with their sum.
func oddSectors() map[string]api.Sector {
	var ones api.Sector
	for i := range ones {
		ones[i] = 0xFF
	}
	bare := told("v1", anyKey())
	clear(bare[60:])
	back := told("v1", anyKey())
	slices.Reverse(back[60:])
	return map[string]api.Sector{
		"ones":                          ones,
		"a tag without its sum":         bare,
		"a tag with the sum turned":     back,
		"a tag's first byte, no sum":    {0x54},
		"a snapshot's, no sum":          {0x53},
		"zeros with their sum":          sum(api.Sector{}),
		"ones with their sum":           sum(ones),
		"a tag's first byte alone":      sum(api.Sector{0x54}),
		"a snapshot's first byte alone": sum(api.Sector{0x53}),
		"a tag of the name of no bytes": sum(api.Sector{0x54, 0, 'v'}),
		"a tag in small letters":        sum(api.Sector{0x74, 1, 'v'}),
		"a snapshot in small letters":   sum(api.Sector{0x73, 0, 0, 0, 1}),
		"no first byte, a name":         sum(api.Sector{0, 1, 'v'}),
		"no first byte, an id":          sum(api.Sector{0, 0, 0, 0, 1}),
		"an id one byte too early":      sum(api.Sector{0x53, 0, 0, 1}),
		"a parent and no id":            sum(api.Sector{0x53, 0, 0, 0, 0, 0, 0, 0, 1}),
		"a name one byte too late":      sum(api.Sector{0x54, 1, 0, 'v'}),
		"an entry":                      sum(api.Sector{0x42, 1, 29, 0, 3}),
		"a superblock":                  sum(api.Sector{0x41, 0x53, 0x53, 0x41, 0x59, 1, 0, 0, 64}),
		"a mark":                        sum(api.Sector{0x4A, 0x4D, 1, 0, 20}),
	}
}

// The numbers that others write by name.
func TestTheStatesHaveTheirNumbers(t *testing.T) {
	if table.Free != 1 || table.Right != 2 || table.Torn != 3 {
		t.Error(table.Free, table.Right, table.Torn)
	}
}

// P17.1, P17.2: the chapter's first example, and the tags of its second.
func TestTheExamplesOfTags(t *testing.T) {
	v1 := api.Tag{Name: "v1", Key: keyOf(7)}
	want := api.Sector{0x54, 0x02, 0x76, 0x31}
	for i := 26; i < 58; i++ {
		want[i] = 7
	}
	if s, e := table.PutTag(v1); s != sum(want) || e != api.OK {
		t.Errorf("PutTag: % x, %d", s, e)
	}
	if x, kind := table.GetTag(sum(want)); x != v1 || kind != table.Right {
		t.Errorf("GetTag: %v, %d", x, kind)
	}
	if x, kind := table.GetTag(api.Sector{}); x != (api.Tag{}) || kind != table.Free {
		t.Errorf("zeros: %v, %d", x, kind)
	}
	behind, long := want, want
	behind[25] = 1
	long[1] = 3
	for _, s := range []api.Sector{sum(behind), sum(long)} {
		if x, kind := table.GetTag(s); x != (api.Tag{}) || kind != table.Torn {
			t.Errorf("% x: %v, %d", s, x, kind)
		}
	}
	for _, n := range []string{"", strings.Repeat("a", 25), "a b"} {
		if s, e := table.PutTag(api.Tag{Name: n, Key: keyOf(7)}); s != (api.Sector{}) || e != api.ErrName {
			t.Errorf("%q: % x, %d", n, s, e)
		}
	}
}

// P17.1, P17.2: the snapshots of the chapter's second example.
func TestTheExamplesOfSnapshots(t *testing.T) {
	if s, e := table.PutSnap(api.Snap{Parent: 1, Layer: anyKey()}); s != (api.Sector{}) || e != api.ErrArg {
		t.Errorf("the id 0: % x, %d", s, e)
	}
	x := api.Snap{ID: 258, Layer: anyKey()}
	want := api.Sector{0x53, 0, 0, 0, 2, 1, 0, 0, 0, 0, 0, 0}
	for i := range 32 {
		want[12+i] = byte(i + 1)
	}
	if s, e := table.PutSnap(x); s != sum(want) || e != api.OK {
		t.Errorf("PutSnap: % x, %d", s, e)
	}
	if g, kind := table.GetSnap(sum(want)); g != x || kind != table.Right {
		t.Errorf("GetSnap: %v, %d", g, kind)
	}
}

// P17.3: the chapter's third example.
func TestTheExamplesOfCounts(t *testing.T) {
	two := sum(api.Sector{1, 0, 0, 0, 0, 1, 0, 0})
	if s, e := table.PutCounts([]uint32{1, 256}); s != two || e != api.OK {
		t.Errorf("PutCounts: % x, %d", s, e)
	}
	fifteen := []uint32{1, 256, 0, 0, 0, 0, 0, 0, 0, 0, 0, 0, 0, 0, 0}
	for n, want := range map[int][]uint32{2: {1, 256}, 15: fifteen, 99: fifteen} {
		if l, ok := table.GetCounts(two, n); !slices.Equal(l, want) || !ok {
			t.Errorf("GetCounts with %d: %v, %v", n, l, ok)
		}
	}
	if l, ok := table.GetCounts(two, 1); len(l) != 0 || ok {
		t.Errorf("GetCounts with 1: %v, %v", l, ok)
	}
	if s, e := table.PutCounts(make([]uint32, 16)); s != (api.Sector{}) || e != api.ErrLong {
		t.Errorf("sixteen: % x, %d", s, e)
	}
	if l, ok := table.GetCounts(api.Sector{}, 2); len(l) != 0 || ok {
		t.Errorf("zeros: %v, %v", l, ok)
	}
}

// P17.2, P17.3: the sums here are written out, so that they hang on no sum that is made by a call.
func TestSumsThatAreKnown(t *testing.T) {
	tag, _ := table.PutTag(api.Tag{Name: "v1", Key: keyOf(7)})
	long, _ := table.PutTag(api.Tag{Name: strings.Repeat("z", 24), Key: anyKey()})
	snap, _ := table.PutSnap(api.Snap{ID: 258, Layer: anyKey()})
	last, _ := table.PutSnap(api.Snap{ID: math.MaxUint32, Parent: math.MaxUint32, Layer: keyOf(0xFF)})
	counts, _ := table.PutCounts([]uint32{1, 256})
	none, _ := table.PutCounts(nil)
	for i, c := range []struct {
		s    api.Sector
		want uint32
	}{{tag, 0x38D307D5}, {long, 0xCB177987}, {snap, 0xFEFE5294}, {last, 0x2FC00FF2}, {counts, 0xECC2B497}, {none, 0x04128908}} {
		if got := binary.LittleEndian.Uint32(c.s[60:]); got != c.want {
			t.Errorf("row %d: %08X, want %08X", i, got, c.want)
		}
	}
}

// P17.1: all zeros is free; one bit is enough to be torn.
func TestZeros(t *testing.T) {
	for range 2 {
		if x, kind := table.GetTag(api.Sector{}); x != (api.Tag{}) || kind != table.Free {
			t.Errorf("a tag: %v, %d", x, kind)
		}
		if x, kind := table.GetSnap(api.Sector{}); x != (api.Snap{}) || kind != table.Free {
			t.Errorf("a snapshot: %v, %d", x, kind)
		}
	}
	for i := range 512 {
		for _, p := range []uint32{1, 0xFFFFFFFF} {
			if i > 480 && p != 1 {
				continue
			}
			checkTorn(t, turned(api.Sector{}, i, p))
		}
	}
}

// checkTorn asks a sector that is no tag's and no snapshot's, and not zeros.
func checkTorn(t *testing.T, s api.Sector) {
	t.Helper()
	if x, kind := table.GetTag(s); x != (api.Tag{}) || kind != table.Torn {
		t.Fatalf("GetTag(% x): %v, %d", s, x, kind)
	}
	if x, kind := table.GetSnap(s); x != (api.Snap{}) || kind != table.Torn {
		t.Fatalf("GetSnap(% x): %v, %d", s, x, kind)
	}
}

// P17.1
func TestSectorsThatAreNone(t *testing.T) {
	for what, s := range oddSectors() {
		t.Log(what)
		checkTorn(t, s)
	}
}

// P17.1: of the two kinds a sector is one at most.
func TestNoSectorIsATagAndASnapshot(t *testing.T) {
	for _, x := range tags() {
		if g, kind := table.GetSnap(told(x.Name, x.Key)); g != (api.Snap{}) || kind != table.Torn {
			t.Errorf("%v as a snapshot: %v, %d", x, g, kind)
		}
	}
	for _, x := range snaps() {
		if g, kind := table.GetTag(toldSnap(x)); g != (api.Tag{}) || kind != table.Torn {
			t.Errorf("%v as a tag: %v, %d", x, g, kind)
		}
	}
}

// P17.1, P17.3, P17.4: sectors of any bytes, nearly all with their sum, read in all three ways.
func TestAnySectorByChance(t *testing.T) {
	r := rand.New(rand.NewSource(1))
	for range 60000 {
		var s api.Sector
		r.Read(s[:])
		if r.Intn(2) == 0 {
			clear(s[r.Intn(61):60])
		}
		s[0] = []byte{s[0], 0x53, 0x54, 0x42}[r.Intn(4)]
		if r.Intn(8) != 0 {
			s = sum(s)
		}
		checkGetTag(t, s)
		checkGetSnap(t, s)
		checkGetCounts(t, s, r.Intn(20)-2)
	}
}
