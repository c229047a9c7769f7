package mend_test

import (
	"fmt"
	"maps"
	"math"
	"slices"
	"strings"
	"testing"

	"assay/api"
	"assay/audit"
	"assay/bits"
	"assay/forest"
	"assay/mend"
	"assay/slot"
	"assay/super"
	"assay/table"
)

// numbers is all numbers that a slot or a sector may have on any disk, and some that none has.
func numbers() []int {
	l := []int{math.MinInt, math.MinInt32, -1 << 32, -1025, -1024, -129, -128, -64, -2, -1}
	for i := range 1100 {
		l = append(l, i)
	}
	return append(l, 1<<16, math.MaxInt32, 1<<32, 1<<32+1, math.MaxInt)
}

// ask is all that a Mended tells. What it says beside false must be empty.
func ask(t *testing.T, m *mend.Mended) will {
	t.Helper()
	w := nothing()
	for _, at := range numbers() {
		e, entry := m.Entry(at)
		tag, is := m.Tag(at)
		snap, stays := m.Snap(at)
		if entry {
			w.entries[at] = e
		}
		if is {
			w.tags[at] = tag
		}
		if stays {
			w.snaps[at] = snap
		}
		if !entry && e != (api.Entry{}) || !is && tag != (api.Tag{}) || !stays && snap != (api.Snap{}) {
			t.Fatalf("beside false at %d: %v, %v, %v", at, e, tag, snap)
		}
		if n := m.Count(at); n != 0 {
			w.counts[at] = n
		}
		if m.Taken(at) {
			w.taken[at] = true
		}
	}
	w.dropped = m.Dropped()
	return w
}

// same holds one store against another.
func same(t *testing.T, got, want will) {
	t.Helper()
	if !maps.Equal(got.entries, want.entries) {
		t.Fatalf("entries: %v, want %v", got.entries, want.entries)
	}
	if !maps.Equal(got.tags, want.tags) {
		t.Fatalf("tags: %v, want %v", got.tags, want.tags)
	}
	if !maps.Equal(got.snaps, want.snaps) {
		t.Fatalf("snapshots: %v, want %v", got.snaps, want.snaps)
	}
	if !maps.Equal(got.counts, want.counts) {
		t.Fatalf("counts: %v, want %v", got.counts, want.counts)
	}
	if !maps.Equal(got.taken, want.taken) {
		t.Fatalf("taken: %v, want %v", ofMap(got.taken), ofMap(want.taken))
	}
	if !slices.Equal(got.dropped, want.dropped) {
		t.Fatalf("dropped: %v, want %v", got.dropped, want.dropped)
	}
}

// ofMap is a map's numbers, rising.
func ofMap[T any](m map[int]T) []int { return slices.Sorted(maps.Keys(m)) }

// check holds what mend makes of a disk against the second reading, P24.5, P24.6 and the audit, and answers it.
func check(t *testing.T, l []api.Sector) *mend.Mended {
	t.Helper()
	im := imageOf(t, l)
	m := mend.Of(im)
	if m == nil || m.Image() != im {
		t.Fatalf("%d sectors: not of its image", len(l))
	}
	w := ask(t, m)
	same(t, w, read(im))
	checkSo(t, m, w)
	checkOnce(t, m, w)
	checkFindings(t, m)
	return m
}

// checkSo: P24.5.
func checkSo(t *testing.T, m *mend.Mended, w will) {
	t.Helper()
	sectors, keys, names := map[int]int{}, map[api.Digest]int{}, map[string]int{}
	quarantined := 0
	for _, e := range w.entries {
		for i := range (e.Length + 63) / 64 {
			sectors[e.Start+i]++
		}
		if e.State == api.Live {
			keys[e.Key]++
		} else {
			quarantined++
		}
	}
	for at, many := range sectors {
		if many != 1 || !m.Taken(at) {
			t.Fatalf("sector %d is %d entries'", at, many)
		}
	}
	for _, tag := range w.tags {
		if names[tag.Name]++; names[tag.Name] > 1 || keys[tag.Key] != 1 {
			t.Fatalf("tag %v: name %d times, key %d times", tag, names[tag.Name], keys[tag.Key])
		}
	}
	for _, snap := range w.snaps {
		if keys[snap.Layer] != 1 {
			t.Fatalf("snapshot %v: its layer is there %d times", snap, keys[snap.Layer])
		}
	}
	for key, many := range keys {
		if many != 1 {
			t.Fatalf("key %x: %d times", key, many)
		}
	}
	if !forest.Is(slices.Collect(maps.Values(w.snaps))) {
		t.Fatalf("no forest: %v", w.snaps)
	}
	if room := m.Image().N() / 8 / 4; quarantined > room {
		t.Fatalf("%d are quarantined, with room for %d", quarantined, room)
	}
}

// lay is the disk on which a store is laid by hand, with the data sectors of the image.
func lay(t *testing.T, m *mend.Mended) []api.Sector {
	t.Helper()
	im := m.Image()
	g, l := im.Geom(), im.Sectors()
	put := func(at int, s api.Sector, e api.Errno) {
		t.Helper()
		if e != api.OK {
			t.Fatalf("sector %d: %d", at, e)
		}
		l[at] = s
	}
	for i := range 2 {
		s, e := super.Put(g.N)
		put(i, s, e)
	}
	clear(l[2:3])
	clear(l[g.Dir:g.Data])
	for i := range g.Slots {
		if x, ok := m.Entry(i); ok {
			s, e := slot.Put(x, g.N)
			put(g.Dir+i, s, e)
		}
	}
	for i := range g.Tags {
		if x, ok := m.Tag(i); ok {
			s, e := table.PutTag(x)
			put(g.Tag+i, s, e)
		}
		if x, ok := m.Snap(i); ok { // there are as many snapshots as tags
			s, e := table.PutSnap(x)
			put(g.Snap+i, s, e)
		}
	}
	for i := range g.Counts {
		var counts []uint32
		for k := 15 * i; k < min(15*i+15, g.Slots); k++ {
			counts = append(counts, m.Count(k))
		}
		s, e := table.PutCounts(counts)
		put(g.Count+i, s, e)
	}
	taken := make([]bool, g.N)
	for at := range taken {
		taken[at] = m.Taken(at)
	}
	copy(l[g.Bitmap:], bits.Put(taken))
	return l
}

// checkOnce: P24.6; and on the disk that is laid nothing is found.
func checkOnce(t *testing.T, m *mend.Mended, w will) {
	t.Helper()
	laid := lay(t, m)
	im := imageOf(t, laid)
	again := mend.Of(im)
	w.dropped = nil
	same(t, ask(t, again), w)
	if !slices.Equal(lay(t, again), laid) {
		t.Fatal("what is laid twice is not what is laid once")
	}
	if l, e := audit.Findings(im, 1); e != api.OK || len(l) > 0 {
		t.Fatalf("found where the store is laid: %v, %d", l, e)
	}
}

// checkFindings: Dropped is the slots of FCrowd; and the disk is the store as it will be just if the audit finds nothing.
func checkFindings(t *testing.T, m *mend.Mended) {
	t.Helper()
	l, e := audit.Findings(m.Image(), 1)
	if e != api.OK {
		t.Fatal(e)
	}
	var crowd []int
	marked := false
	for _, f := range l {
		if f.Kind == api.FCrowd {
			crowd = append(crowd, f.At)
		}
		marked = marked || f.Kind == api.FJournal
	}
	if got := m.Dropped(); !slices.Equal(got, crowd) {
		t.Fatalf("dropped: %v, want %v", got, crowd)
	}
	// A committed mark is gone from the image, and is found all the same.
	if is := slices.Equal(lay(t, m), m.Image().Sectors()); is != (len(l) == 0) && !marked {
		t.Fatalf("laid as it will be %v, found %v", is, l)
	}
}

// entries is what Entry tells: each slot with L, if the entry is live, and with Q, if it is quarantined.
func entries(m *mend.Mended) string {
	var l []string
	for i := range m.Image().Geom().Slots {
		if e, ok := m.Entry(i); ok {
			l = append(l, fmt.Sprintf("%d%c", i, "?LQ"[e.State]))
		}
	}
	return strings.Join(l, ",")
}

// tagsTold is the slots and the names that Tag tells.
func tagsTold(m *mend.Mended) string {
	var l []string
	for i := range m.Image().Geom().Tags {
		if tag, ok := m.Tag(i); ok {
			l = append(l, fmt.Sprintf("%d:%s", i, tag.Name))
		}
	}
	return strings.Join(l, ",")
}

// snapsTold is the slots, the ids and the parents that Snap tells.
func snapsTold(m *mend.Mended) string {
	var l []string
	for i := range m.Image().Geom().Snaps {
		if snap, ok := m.Snap(i); ok {
			l = append(l, fmt.Sprintf("%d:%d<%d", i, snap.ID, snap.Parent))
		}
	}
	return strings.Join(l, ",")
}

// is holds what is told against what is asked.
func is[T comparable](t *testing.T, got, want T) {
	t.Helper()
	if got != want {
		t.Errorf("%v, want %v", got, want)
	}
}

// drops holds which slots are dropped.
func drops(t *testing.T, m *mend.Mended, want ...int) {
	t.Helper()
	if got := m.Dropped(); !slices.Equal(got, want) {
		t.Errorf("dropped: %v, want %v", got, want)
	}
}
