package image_test

import (
	"encoding/binary"
	"hash/crc32"
	"math/rand"
	"slices"
	"testing"

	"assay/api"
)

// sumOf is the library's sum of sectors, one behind the other.
func sumOf(l ...api.Sector) uint32 {
	var b []byte
	for _, s := range l {
		b = append(b, s[:]...)
	}
	return crc32.ChecksumIEEE(b)
}

// commit has a disk's mark tell of these targets, with the sectors that its journal has.
func commit(l []api.Sector, targets ...int) {
	s := api.Sector{0x4A, 0x4D, byte(len(targets))}
	for i, at := range targets {
		binary.LittleEndian.PutUint16(s[4+2*i:], uint16(at))
	}
	binary.LittleEndian.PutUint32(s[20:], sumOf(l[3:3+len(targets)]...))
	l[2] = sum(s)
}

// parts is a sector of each part of a disk that may be a target: the first and the last of each.
func parts(n int) []int {
	p := placesOf(n)
	l := []int{0, 1, p.bitmap, p.dir - 1, p.dir, p.tag - 1, p.tag, p.snap - 1, p.snap, p.count - 1, p.count, p.data - 1, p.data, n - 1}
	slices.Sort(l)
	return slices.Compact(l)
}

// checkReplayed holds the image of a disk against the disk with the journal's sectors at their targets, and the mark zeros.
func checkReplayed(t *testing.T, l []api.Sector, targets ...int) {
	t.Helper()
	m := check(t, l)
	want := slices.Clone(l)
	for i, at := range targets {
		want[at] = l[3+i]
	}
	want[2] = api.Sector{}
	if m.Mark() != committed || !slices.Equal(m.Sectors(), want) {
		t.Fatalf("%d sectors, %v: %d", len(l), targets, m.Mark())
	}
	for i, at := range targets {
		if m.Sector(at) != l[3+i] {
			t.Fatalf("%d sectors, %v: Sector(%d): % x", len(l), targets, at, m.Sector(at))
		}
	}
}

// checkAsItIs holds the image of a disk that is not replayed against the disk.
func checkAsItIs(t *testing.T, l []api.Sector, state int) {
	t.Helper()
	m := check(t, l)
	if m.Mark() != state || !slices.Equal(m.Sectors(), l) || m.Sector(2) != l[2] {
		t.Fatalf("%d sectors: %d, want %d; % x", len(l), m.Mark(), state, m.Sector(2))
	}
}

// P18.1, P18.2: an empty mark, whatever the journal has.
func TestEmptyMarks(t *testing.T) {
	r := rand.New(rand.NewSource(3))
	for _, n := range sizes() {
		checkAsItIs(t, make([]api.Sector, n), empty)
		checkAsItIs(t, noise(r, n), empty)
	}
}

// P18.1, P18.2: one target, each that there is.
func TestOneTarget(t *testing.T) {
	r := rand.New(rand.NewSource(4))
	for _, n := range []int{64, 120, 481} {
		for at := range n {
			l := noise(r, n)
			commit(l, at)
			if at >= 2 && at <= 10 {
				checkAsItIs(t, l, rubbish)
			} else {
				checkReplayed(t, l, at)
			}
		}
	}
	for _, n := range sizes() {
		for _, at := range parts(n) {
			l := noise(r, n)
			commit(l, at)
			checkReplayed(t, l, at)
		}
	}
}

// P18.1, P18.2: batches of every number of sectors, with targets of all parts.
func TestSeveralTargets(t *testing.T) {
	r := rand.New(rand.NewSource(5))
	for _, n := range sizes() {
		for k := 1; k <= 8; k++ {
			all := parts(n)
			first, last := all[:k], all[len(all)-k:]
			for _, targets := range [][]int{first, last, chosen(r, n, k)} {
				l := noise(r, n)
				commit(l, targets...)
				checkReplayed(t, l, targets...)
			}
		}
	}
}

// chosen is k targets by chance, rising.
func chosen(r *rand.Rand, n, k int) []int {
	var l []int
	for len(l) < k {
		if at := r.Intn(n); (at < 2 || at > 10) && !slices.Contains(l, at) {
			l = append(l, at)
		}
	}
	slices.Sort(l)
	return l
}

// P18.1, P18.2: of a batch with fewer than eight sectors the journal's others are not looked at.
func TestTheRestOfTheJournal(t *testing.T) {
	r := rand.New(rand.NewSource(6))
	for k := 1; k < 8; k++ {
		l := noise(r, 64)
		targets := chosen(r, 64, k)
		commit(l, targets...)
		for i := 3 + k; i <= 10; i++ {
			r.Read(l[i][:])
			checkReplayed(t, l, targets...)
		}
	}
}

// P18.1, P18.2: marks with their sums right that tell of no batch.
func TestMarksOfNoBatch(t *testing.T) {
	r := rand.New(rand.NewSource(7))
	for _, n := range sizes() {
		bad := [][]int{{}, {n}, {n + 1}, {0xFFFF}, {20, 20}, {21, 20}, {20, 21, 21}, {0, 1, 2}, {1, 10, 11}, {20, n}, {0, 1, 11, 12, 13, 14, 15, n}}
		for at := 2; at <= 10; at++ {
			bad = append(bad, []int{at}, []int{1, at, 40})
		}
		for _, targets := range bad {
			l := noise(r, n)
			commit(l, targets...)
			checkAsItIs(t, l, rubbish)
		}
	}
	l := noise(r, 64)
	commit(l, 0, 1, 11, 12, 13, 14, 15, 16, 17) // nine
	checkAsItIs(t, l, rubbish)
}

// P18.1, P18.2: one bit turned, in the mark or in a sector that the batch has in the journal.
func TestTurnedBits(t *testing.T) {
	r := rand.New(rand.NewSource(8))
	for _, k := range []int{1, 3, 8} {
		l := noise(r, 64)
		commit(l, chosen(r, 64, k)...)
		for place := 2; place < 3+k; place++ {
			for i := range 512 {
				x := slices.Clone(l)
				x[place] = flipped(x[place], i)
				if m := made(t, x); m.Mark() != rubbish || !slices.Equal(m.Sectors(), x) {
					t.Fatalf("the bit %d of %d: %d", i, place, m.Mark())
				}
			}
			x := slices.Clone(l)
			x[place] = flipped(x[place], r.Intn(512))
			checkAsItIs(t, x, rubbish)
		}
	}
}

// P18.1, P18.2: a mark whose journal has its sectors in another order, and marks with a byte that should be 0, their own sum right.
func TestMarksThatAreNearlyRight(t *testing.T) {
	r := rand.New(rand.NewSource(9))
	l := noise(r, 64)
	commit(l, 20, 40)
	x := slices.Clone(l)
	x[3], x[4] = x[4], x[3]
	checkAsItIs(t, x, rubbish)
	for at := range 60 {
		x := slices.Clone(l)
		x[2][at] ^= 0x80
		x[2] = sum(x[2])
		checkAsItIs(t, x, rubbish)
	}
	x = slices.Clone(l)
	x[2] = api.Sector{63: 1}
	checkAsItIs(t, x, rubbish)
	x[2] = sum(api.Sector{})
	checkAsItIs(t, x, rubbish)
}

// P18.3 to P18.7: all tables are read behind the replay, from what the batch has.
func TestTablesAreReadBehindTheReplay(t *testing.T) {
	l := make([]api.Sector, 64)
	entry := api.Entry{State: 1, Start: 63, Length: 2, Key: keyOf(3)}
	l[3], l[4], l[5], l[6] = superOf(64), bitmapOf(64, 40)[0], entryOf(entry), tagOf("v1", keyOf(3))
	l[7], l[8], l[9] = snapOf(api.Snap{ID: 9, Parent: 8, Layer: keyOf(4)}), countsOf(0, 0, 5), api.Sector{'h', 'i'}
	commit(l, 1, 11, 19, 20, 27, 28, 63)
	m := check(t, l)
	if m.Super(0) || !m.Super(1) || len(m.Bitmaps()) != 0 || len(m.Counts()) != 0 {
		t.Error(m.Super(0), m.Super(1), m.Bitmaps(), m.Counts())
	}
	if e, kind := m.Entry(7); e != entry || kind != right || string(m.Bytes(e)) != "hi" {
		t.Errorf("%v, %d", e, kind)
	}
	if x, kind := m.Tag(0); x != (api.Tag{Name: "v1", Key: keyOf(3)}) || kind != right {
		t.Errorf("%v, %d", x, kind)
	}
	if x, kind := m.Snap(3); x != (api.Snap{ID: 9, Parent: 8, Layer: keyOf(4)}) || kind != right {
		t.Errorf("%v, %d", x, kind)
	}
	if v, ok := m.Count(2); v != 5 || !ok {
		t.Error(v, ok)
	}
	if b, ok := m.Bit(40); !b || !ok {
		t.Error(b, ok)
	}
	l[2][63] ^= 1
	checkAsItIs(t, l, rubbish)
}
