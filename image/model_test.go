package image_test

import (
	"encoding/binary"
	"hash/crc32"
	"math"
	"slices"
	"testing"

	"assay/api"
	"assay/geom"
	"assay/image"
	"assay/name"
)

// What a slot, a mark is, by number.
const (
	free      = 1
	right     = 2
	torn      = 3
	empty     = 1
	committed = 2
	rubbish   = 3
)

// sum is the sector with the library's sum of its first 60 bytes behind them.
func sum(s api.Sector) api.Sector {
	binary.LittleEndian.PutUint32(s[60:], crc32.ChecksumIEEE(s[:60]))
	return s
}

// zeros tells whether all bytes are 0.
func zeros(b []byte) bool {
	for _, v := range b {
		if v != 0 {
			return false
		}
	}
	return true
}

// places is where the tables lie.
type places struct {
	bitmap, bitmaps, dir, slots, tag, tags, snap, snaps, count, counts, data int
}

// placesOf is those of n sectors, as DOC.md tells them.
func placesOf(n int) places {
	p := places{bitmap: 11, bitmaps: (n + 479) / 480, slots: n / 8, tags: n / 16, snaps: n / 16}
	p.counts = (p.slots + 14) / 15
	p.dir = p.bitmap + p.bitmaps
	p.tag = p.dir + p.slots
	p.snap = p.tag + p.tags
	p.count = p.snap + p.snaps
	p.data = p.count + p.counts
	return p
}

// markOf is what a disk's mark is, and the targets of a committed one, as DOC.md tells it.
func markOf(l []api.Sector) (int, []int) {
	s := l[2]
	if s == (api.Sector{}) {
		return empty, nil
	}
	k := int(s[2])
	if s != sum(s) || s[0] != 0x4A || s[1] != 0x4D || k < 1 || k > 8 || s[3] != 0 {
		return rubbish, nil
	}
	var targets []int
	var kept []byte
	for i := range k {
		at := int(s[4+2*i]) + 256*int(s[5+2*i])
		if at >= len(l) || at >= 2 && at <= 10 || i > 0 && at <= targets[i-1] {
			return rubbish, nil
		}
		targets = append(targets, at)
		kept = append(kept, l[3+i][:]...)
	}
	if !zeros(s[4+2*k:20]) || binary.LittleEndian.Uint32(s[20:]) != crc32.ChecksumIEEE(kept) || !zeros(s[24:60]) {
		return rubbish, nil
	}
	return committed, targets
}

// judgedOf is the disk that is judged (D0).
func judgedOf(l []api.Sector) []api.Sector {
	d := slices.Clone(l)
	state, targets := markOf(l)
	for i, at := range targets {
		d[at] = l[3+i]
	}
	if state == committed {
		d[2] = api.Sector{}
	}
	return d
}

// superOf is the superblock of n, be there such a disk or not.
func superOf(n int) api.Sector {
	s := api.Sector{0x41, 0x53, 0x53, 0x41, 0x59, 0x01}
	binary.LittleEndian.PutUint32(s[8:], uint32(n))
	return sum(s)
}

// isRight tells whether an entry is right on a disk of n sectors, sector by sector.
func isRight(e api.Entry, n int) bool {
	if e.State != 1 && e.State != 2 || e.Length < 0 || e.Length > 4096 {
		return false
	}
	if e.Length == 0 {
		return e.Start == 0
	}
	at := e.Start
	for left := e.Length; left > 0; left -= 64 {
		if at < placesOf(n).data || at > n-1 {
			return false
		}
		at++
	}
	return true
}

// readEntry is what a sector of the directory tells on a disk of n sectors.
func readEntry(s api.Sector, n int) (api.Entry, int) {
	if s == (api.Sector{}) {
		return api.Entry{}, free
	}
	e := api.Entry{
		State:  int(s[1]),
		Start:  int(binary.LittleEndian.Uint16(s[2:])),
		Length: int(binary.LittleEndian.Uint16(s[4:])),
		Key:    api.Digest(s[8:40]),
	}
	if s != sum(s) || s[0] != 0x42 || !zeros(s[6:8]) || !zeros(s[40:60]) || !isRight(e, n) {
		return api.Entry{}, torn
	}
	return e, right
}

// readTag is what a sector of the tags tells.
func readTag(s api.Sector) (api.Tag, int) {
	if s == (api.Sector{}) {
		return api.Tag{}, free
	}
	k := int(s[1])
	if s != sum(s) || s[0] != 0x54 || k > 24 || !zeros(s[2+k:26]) || !zeros(s[58:60]) || name.Check(string(s[2:2+k])) != api.OK {
		return api.Tag{}, torn
	}
	return api.Tag{Name: string(s[2 : 2+k]), Key: api.Digest(s[26:58])}, right
}

// readSnap is what a sector of the snapshots tells.
func readSnap(s api.Sector) (api.Snap, int) {
	if s == (api.Sector{}) {
		return api.Snap{}, free
	}
	x := api.Snap{ID: binary.LittleEndian.Uint32(s[4:]), Parent: binary.LittleEndian.Uint32(s[8:]), Layer: api.Digest(s[12:44])}
	if s != sum(s) || s[0] != 0x53 || !zeros(s[1:4]) || x.ID == 0 || !zeros(s[44:60]) {
		return api.Snap{}, torn
	}
	return x, right
}

// readCounts is each slot's count, whether it can be read, and which sectors are torn.
func readCounts(d []api.Sector) ([]uint32, []bool, []int) {
	p := placesOf(len(d))
	values, known := make([]uint32, p.slots), make([]bool, p.slots)
	var bad []int
	for k := range p.counts {
		s := d[p.count+k]
		own := min(15, p.slots-15*k)
		if s != sum(s) || !zeros(s[4*own:60]) {
			bad = append(bad, k)
			continue
		}
		for i := range own {
			values[15*k+i], known[15*k+i] = binary.LittleEndian.Uint32(s[4*i:]), true
		}
	}
	return values, known, bad
}

// readBits is each sector's bit, whether it can be read, and which of the bitmap's sectors are torn.
func readBits(d []api.Sector) ([]bool, []bool, []int) {
	values, known := make([]bool, len(d)), make([]bool, len(d))
	var bad []int
	for k := range placesOf(len(d)).bitmaps {
		s := d[11+k]
		whole := s == sum(s)
		for i := range 480 {
			whole = whole && (480*k+i < len(d) || s[i/8]>>(i%8)&1 == 0)
		}
		if !whole {
			bad = append(bad, k)
			continue
		}
		for i := 480 * k; i < min(480*k+480, len(d)); i++ {
			values[i], known[i] = s[i%480/8]>>(i%8)&1 == 1, true
		}
	}
	return values, known, bad
}

// around is every number from just below 0 to just above k, and some far off; of some the lowest 8, 16 or 32 bits are those of one between.
func around(k int) []int {
	l := []int{
		math.MinInt, math.MinInt + 1, math.MinInt + 3, math.MinInt32, -1<<32 + 1, -1 << 16, -1024, -480, -64, -15,
		1 << 16, 1<<16 + 1, math.MaxInt32, 1 << 32, 1<<32 + 1, 1 << 62, math.MaxInt - 3, math.MaxInt,
	}
	for i := -3; i <= k+3; i++ {
		l = append(l, i)
	}
	return l
}

// made is the image of a disk that is one.
func made(t *testing.T, l []api.Sector) *image.Image {
	t.Helper()
	m, e := image.Of(l)
	if m == nil || e != api.OK {
		t.Fatalf("%d sectors: %v, %d", len(l), m, e)
	}
	return m
}

// check holds all that an image tells of a disk against the chapter's words.
func check(t *testing.T, l []api.Sector) *image.Image {
	t.Helper()
	m := made(t, l)
	d := judgedOf(l)
	checkDisk(t, m, l, d)
	checkSlots(t, m, d)
	checkSpread(t, m, d)
	return m
}

// checkDisk asks an image for the disk's sectors, its mark and its superblocks.
func checkDisk(t *testing.T, m *image.Image, l, d []api.Sector) {
	t.Helper()
	if g, e := geom.Of(len(l)); m.N() != len(l) || m.Geom() != g || e != api.OK {
		t.Fatalf("N %d, %v", m.N(), m.Geom())
	}
	if state, _ := markOf(l); m.Mark() != state {
		t.Fatalf("Mark: %d, want %d", m.Mark(), state)
	}
	if !slices.Equal(m.Sectors(), d) {
		t.Fatal("Sectors")
	}
	for _, at := range around(len(l)) {
		var want api.Sector
		if at >= 0 && at < len(d) {
			want = d[at]
		}
		if got := m.Sector(at); got != want {
			t.Fatalf("Sector(%d): % x, want % x", at, got, want)
		}
	}
	for _, i := range around(12) {
		if want := (i == 0 || i == 1) && d[i] == superOf(len(d)); m.Super(i) != want {
			t.Fatalf("Super(%d): %v", i, !want)
		}
	}
}

// checkSlots asks an image for all slots of the directory, the tags and the snapshots, and for each entry's bytes.
func checkSlots(t *testing.T, m *image.Image, d []api.Sector) {
	t.Helper()
	p := placesOf(len(d))
	for _, i := range around(p.slots) {
		var want api.Entry
		var kind int
		if i >= 0 && i < p.slots {
			want, kind = readEntry(d[p.dir+i], len(d))
		}
		if e, k := m.Entry(i); e != want || k != kind {
			t.Fatalf("Entry(%d): %v, %d, want %v, %d", i, e, k, want, kind)
		}
		checkBytes(t, m, d, want)
	}
	for _, i := range around(p.tags) {
		var want api.Tag
		var kind int
		if i >= 0 && i < p.tags {
			want, kind = readTag(d[p.tag+i])
		}
		if x, k := m.Tag(i); x != want || k != kind {
			t.Fatalf("Tag(%d): %v, %d, want %v, %d", i, x, k, want, kind)
		}
	}
	for _, i := range around(p.snaps) {
		var want api.Snap
		var kind int
		if i >= 0 && i < p.snaps {
			want, kind = readSnap(d[p.snap+i])
		}
		if x, k := m.Snap(i); x != want || k != kind {
			t.Fatalf("Snap(%d): %v, %d, want %v, %d", i, x, k, want, kind)
		}
	}
}

// checkSpread asks an image for all counts and bits, and for the sectors of them that are torn.
func checkSpread(t *testing.T, m *image.Image, d []api.Sector) {
	t.Helper()
	counts, known, bad := readCounts(d)
	if !slices.Equal(m.Counts(), bad) {
		t.Fatalf("Counts: %v, want %v", m.Counts(), bad)
	}
	for _, i := range around(len(counts)) {
		var want uint32
		var ok bool
		if i >= 0 && i < len(counts) {
			want, ok = counts[i], known[i]
		}
		if v, k := m.Count(i); v != want || k != ok {
			t.Fatalf("Count(%d): %d, %v, want %d, %v", i, v, k, want, ok)
		}
	}
	taken, known, bad := readBits(d)
	if !slices.Equal(m.Bitmaps(), bad) {
		t.Fatalf("Bitmaps: %v, want %v", m.Bitmaps(), bad)
	}
	for _, i := range around(len(taken)) {
		var want, ok bool
		if i >= 0 && i < len(taken) {
			want, ok = taken[i], known[i]
		}
		if v, k := m.Bit(i); v != want || k != ok {
			t.Fatalf("Bit(%d): %v, %v, want %v, %v", i, v, k, want, ok)
		}
	}
}

// checkBytes asks an image of the disk d for an entry's bytes.
func checkBytes(t *testing.T, m *image.Image, d []api.Sector, e api.Entry) {
	t.Helper()
	var want []byte
	if isRight(e, len(d)) {
		for i := range e.Length {
			want = append(want, d[e.Start+i/64][i%64])
		}
	}
	if got := m.Bytes(e); !slices.Equal(got, want) {
		t.Fatalf("Bytes(%v): % x, want % x", e, got, want)
	}
}
