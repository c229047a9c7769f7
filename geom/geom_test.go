package geom_test

import (
	"math"
	"testing"

	"assay/api"
	"assay/geom"
)

// disk is the Geom of a number of sectors that there may be.
func disk(t *testing.T, n int) geom.Geom {
	t.Helper()
	g, e := geom.Of(n)
	if e != api.OK {
		t.Fatalf("Of(%d): error %d", n, e)
	}
	return g
}

// enough is how many times so many it takes to hold n, by counting up.
func enough(n, each int) int {
	k := 0
	for k*each < n {
		k++
	}
	return k
}

// whole is how many times so many n has, by counting up.
func whole(n, each int) int {
	k := 0
	for (k+1)*each <= n {
		k++
	}
	return k
}

// around is the places on a disk of n sectors, those near its ends, and the ones at which sums wrap round.
func around(n int) []int {
	l := []int{
		math.MinInt, math.MinInt + 1, math.MinInt + 11, -1 << 32, -1<<32 + 1,
		1 << 32, 1<<32 + 1, 1<<32 + 11, math.MaxInt - 1, math.MaxInt,
	}
	for at := -20; at < n+20; at++ {
		l = append(l, at)
	}
	return l
}

// P6.1
func TestPlacesOfTheExamples(t *testing.T) {
	for _, want := range []geom.Geom{
		{N: 64, Bitmap: 11, Bitmaps: 1, Dir: 12, Slots: 8, Tag: 20, Tags: 4, Snap: 24, Snaps: 4, Count: 28, Counts: 1, Data: 29, Room: 2},
		{N: 1024, Bitmap: 11, Bitmaps: 3, Dir: 14, Slots: 128, Tag: 142, Tags: 64, Snap: 206, Snaps: 64, Count: 270, Counts: 9, Data: 279, Room: 32},
	} {
		if g, e := geom.Of(want.N); g != want || e != api.OK {
			t.Errorf("Of(%d): %+v, %d, want %+v, OK", want.N, g, e, want)
		}
	}
	if geom.Super != 0 || geom.Mark != 2 || geom.Journal != 3 {
		t.Errorf("the first places: %d, %d, %d", geom.Super, geom.Mark, geom.Journal)
	}
}

// P6.1: each side of the numbers of sectors at which a table grows or moves.
func TestPlacesWhereATableGrows(t *testing.T) {
	for _, want := range []geom.Geom{
		{N: 71, Bitmap: 11, Bitmaps: 1, Dir: 12, Slots: 8, Tag: 20, Tags: 4, Snap: 24, Snaps: 4, Count: 28, Counts: 1, Data: 29, Room: 2},
		{N: 72, Bitmap: 11, Bitmaps: 1, Dir: 12, Slots: 9, Tag: 21, Tags: 4, Snap: 25, Snaps: 4, Count: 29, Counts: 1, Data: 30, Room: 2},
		{N: 79, Bitmap: 11, Bitmaps: 1, Dir: 12, Slots: 9, Tag: 21, Tags: 4, Snap: 25, Snaps: 4, Count: 29, Counts: 1, Data: 30, Room: 2},
		{N: 80, Bitmap: 11, Bitmaps: 1, Dir: 12, Slots: 10, Tag: 22, Tags: 5, Snap: 27, Snaps: 5, Count: 32, Counts: 1, Data: 33, Room: 2},
		{N: 127, Bitmap: 11, Bitmaps: 1, Dir: 12, Slots: 15, Tag: 27, Tags: 7, Snap: 34, Snaps: 7, Count: 41, Counts: 1, Data: 42, Room: 3},
		{N: 128, Bitmap: 11, Bitmaps: 1, Dir: 12, Slots: 16, Tag: 28, Tags: 8, Snap: 36, Snaps: 8, Count: 44, Counts: 2, Data: 46, Room: 4},
		{N: 480, Bitmap: 11, Bitmaps: 1, Dir: 12, Slots: 60, Tag: 72, Tags: 30, Snap: 102, Snaps: 30, Count: 132, Counts: 4, Data: 136, Room: 15},
		{N: 481, Bitmap: 11, Bitmaps: 2, Dir: 13, Slots: 60, Tag: 73, Tags: 30, Snap: 103, Snaps: 30, Count: 133, Counts: 4, Data: 137, Room: 15},
		{N: 960, Bitmap: 11, Bitmaps: 2, Dir: 13, Slots: 120, Tag: 133, Tags: 60, Snap: 193, Snaps: 60, Count: 253, Counts: 8, Data: 261, Room: 30},
		{N: 961, Bitmap: 11, Bitmaps: 3, Dir: 14, Slots: 120, Tag: 134, Tags: 60, Snap: 194, Snaps: 60, Count: 254, Counts: 8, Data: 262, Room: 30},
		{N: 1023, Bitmap: 11, Bitmaps: 3, Dir: 14, Slots: 127, Tag: 141, Tags: 63, Snap: 204, Snaps: 63, Count: 267, Counts: 9, Data: 276, Room: 31},
	} {
		if g, e := geom.Of(want.N); g != want || e != api.OK {
			t.Errorf("Of(%d): %+v, %d, want %+v, OK", want.N, g, e, want)
		}
	}
}

// P6.1: every number of sectors that there may be.
func TestEachTableLiesBehindTheOneAhead(t *testing.T) {
	for n := 64; n <= 1024; n++ {
		slots := whole(n, 8)
		want := geom.Geom{N: n, Bitmap: 11, Slots: slots, Room: whole(slots, 4)}
		want.Bitmaps, want.Counts = enough(n, 480), enough(slots, 15)
		want.Tags, want.Snaps = whole(n, 16), whole(n, 16)
		want.Dir = 11 + want.Bitmaps
		want.Tag = 11 + want.Bitmaps + slots
		want.Snap = 11 + want.Bitmaps + slots + want.Tags
		want.Count = 11 + want.Bitmaps + slots + want.Tags + want.Snaps
		want.Data = 11 + want.Bitmaps + slots + want.Tags + want.Snaps + want.Counts
		if g := disk(t, n); g != want {
			t.Fatalf("Of(%d): %+v, want %+v", n, g, want)
		}
	}
}

// P6.1
func TestOtherSizesAreRefused(t *testing.T) {
	l := []int{
		math.MinInt, math.MinInt + 64, math.MinInt32, -1 << 32, -1<<32 + 64, -1024, -64,
		1 << 16, 1<<16 + 64, math.MaxInt32, 1 << 32, 1<<32 + 64, 1<<32 + 1024, 1 << 62, math.MaxInt - 479, math.MaxInt,
	}
	for n := -70; n < 64; n++ {
		l = append(l, n)
	}
	for n := 1025; n < 3000; n++ {
		l = append(l, n)
	}
	for _, n := range l {
		if g, e := geom.Of(n); g != (geom.Geom{}) || e != api.ErrSize {
			t.Errorf("Of(%d): %+v, %d, want the zero Geom, ErrSize", n, g, e)
		}
	}
}

// P6.1, P3: it hangs on the number alone, and no two numbers have one Geom.
func TestGeomsAreComparedAsValues(t *testing.T) {
	seen := map[geom.Geom]int{}
	for n := 64; n <= 1024; n++ {
		g := disk(t, n)
		if other, ok := seen[g]; ok {
			t.Fatalf("Of(%d) is Of(%d)", n, other)
		}
		seen[g] = n
		changed := g
		changed.Data, changed.N = 0, 0
		if changed == g || g != disk(t, n) {
			t.Fatalf("Of(%d): a write into a copy is seen", n)
		}
	}
}

// P6.2
func TestHeadIsAllAheadOfTheData(t *testing.T) {
	if h := disk(t, 64).Head(); h != 29 {
		t.Errorf("the head of 64 sectors: %d", h)
	}
	if h := disk(t, 1024).Head(); h != 279 {
		t.Errorf("the head of 1024 sectors: %d", h)
	}
	for n := 64; n <= 1024; n++ {
		g := disk(t, n)
		parts := 2 + 1 + 8 + g.Bitmaps + g.Slots + g.Tags + g.Snaps + g.Counts
		if g.Head() != g.Data || g.Head() != parts {
			t.Fatalf("the head of %d sectors: %d, Data %d, its parts %d", n, g.Head(), g.Data, parts)
		}
	}
}

// P6.2, P6.3: a Geom of no disk has no sector.
func TestZeroGeomHasNoSectors(t *testing.T) {
	refused, _ := geom.Of(63)
	for _, g := range []geom.Geom{{}, refused} {
		if g.Head() != 0 {
			t.Errorf("the head of no disk: %d", g.Head())
		}
		for _, at := range around(64) {
			if g.Target(at) {
				t.Errorf("Target(%d) of no disk", at)
			}
		}
	}
}

// P6.3
func TestTargetsOfTheExamples(t *testing.T) {
	g := disk(t, 64)
	for _, at := range []int{0, 1, 11, 63} {
		if !g.Target(at) {
			t.Errorf("Target(%d) of 64 sectors is false", at)
		}
	}
	for _, at := range []int{2, 10, 64, -1} {
		if g.Target(at) {
			t.Errorf("Target(%d) of 64 sectors is true", at)
		}
	}
}

// P6.3: each place of each disk, and places that it hasn't.
func TestTargetsAreAllButMarkAndJournal(t *testing.T) {
	closed := map[int]bool{2: true, 3: true, 4: true, 5: true, 6: true, 7: true, 8: true, 9: true, 10: true}
	for n := 64; n <= 1024; n++ {
		g := disk(t, n)
		for _, at := range around(n) {
			want := at >= 0 && at < n && !closed[at]
			if g.Target(at) != want {
				t.Fatalf("Target(%d) of %d sectors is not %v", at, n, want)
			}
		}
	}
}

// part is some sectors, one behind the other.
type part struct {
	name        string
	first, many int
}

// divided is the parts of a disk, as its Geom tells them.
func divided(g geom.Geom) []part {
	return []part{
		{"the superblocks", geom.Super, 2},
		{"the mark", geom.Mark, 1},
		{"the journal", geom.Journal, 8},
		{"the bitmap", g.Bitmap, g.Bitmaps},
		{"the directory", g.Dir, g.Slots},
		{"tags", g.Tag, g.Tags},
		{"snapshots", g.Snap, g.Snaps},
		{"counts", g.Count, g.Counts},
		{"data", g.Data, g.N - g.Data},
	}
}

// P6.4
func TestEachSectorIsInJustOnePart(t *testing.T) {
	for n := 64; n <= 1024; n++ {
		owner := make([]string, n)
		for _, p := range divided(disk(t, n)) {
			if p.many < 1 {
				t.Fatalf("%d sectors: %s: %d sectors", n, p.name, p.many)
			}
			for i := range p.many {
				at := p.first + i
				if at < 0 || at >= n {
					t.Fatalf("%d sectors: %s: at %d", n, p.name, at)
				}
				if owner[at] != "" {
					t.Fatalf("%d sectors: %d is of %s and of %s", n, at, owner[at], p.name)
				}
				owner[at] = p.name
			}
		}
		for at, name := range owner {
			if name == "" {
				t.Fatalf("%d sectors: %d is in no part", n, at)
			}
		}
	}
}

// P6.4: the tables have room for what they are to tell, whatever the number of sectors.
func TestTablesReachAllTheyTellOf(t *testing.T) {
	for n := 64; n <= 1024; n++ {
		g := disk(t, n)
		if g.Bitmaps*480 < n || (g.Bitmaps-1)*480 >= n {
			t.Fatalf("%d sectors: %d sectors of the bitmap", n, g.Bitmaps)
		}
		if g.Counts*15 < g.Slots || (g.Counts-1)*15 >= g.Slots {
			t.Fatalf("%d sectors: %d sectors of counts for %d slots", n, g.Counts, g.Slots)
		}
		if g.Room < 1 || g.Room*4 > g.Slots || g.Room*4+3 < g.Slots {
			t.Fatalf("%d sectors: room for %d of %d slots", n, g.Room, g.Slots)
		}
	}
}
