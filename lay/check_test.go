package lay_test

import (
	"fmt"
	"slices"
	"strings"
	"testing"

	"assay/api"
	"assay/audit"
	"assay/lay"
	"assay/mend"
)

// going is all that All tells in one going.
func going(m *mend.Mended) []api.Write {
	var l []api.Write
	for at, s := range lay.All(m) {
		l = append(l, api.Write{At: at, Data: s})
	}
	return l
}

// laidOut is what All must tell, of a head.
func laidOut(head []api.Sector) []api.Write {
	var l []api.Write
	for at, s := range head {
		if at < 2 || at > 10 {
			l = append(l, api.Write{At: at, Data: s})
		}
	}
	return l
}

// places is where writes go to.
func places(l []api.Write) []int {
	var at []int
	for _, w := range l {
		at = append(at, w.At)
	}
	return at
}

// written is some sectors with writes laid into a copy of them.
func written(l []api.Sector, writes ...api.Write) []api.Sector {
	l = slices.Clone(l)
	for _, w := range writes {
		l[w.At] = w.Data
	}
	return l
}

// differ is what Differ tells of sectors that are a disk.
func differ(t *testing.T, l []api.Sector) []api.Write {
	t.Helper()
	writes, e := lay.Differ(l)
	if e != api.OK {
		t.Fatalf("%d sectors: %d", len(l), e)
	}
	return writes
}

// check holds all that lay tells of a disk against the second reading, P25.4 and the audit, and answers what differs.
func check(t *testing.T, l []api.Sector) []api.Write {
	t.Helper()
	im := imageOf(t, l)
	m := mend.Of(im)
	want := model(m)
	if head := lay.Head(m); !slices.Equal(head, want) {
		t.Fatalf("%d sectors: Head has %d, and another one at %d", len(l), len(head), firstOther(head, want))
	}
	if got := going(m); !slices.Equal(got, laidOut(want)) {
		t.Fatalf("%d sectors: All tells %v", len(l), places(got))
	}
	d0 := im.Sectors()
	writes := slices.DeleteFunc(laidOut(want), func(w api.Write) bool { return w.Data == d0[w.At] })
	if got := differ(t, l); !slices.Equal(got, writes) {
		t.Fatalf("%d sectors: %v differ, want %v", len(l), places(got), places(writes))
	}
	checkFound(t, m, writes)
	checkDone(t, m, writes)
	return writes
}

// firstOther is the first place at which two lists are not the same, or -1.
func firstOther(a, b []api.Sector) int {
	for i := range min(len(a), len(b)) {
		if a[i] != b[i] {
			return i
		}
	}
	return -1
}

// checkFound: what differs are just the sectors in which the audit finds something.
func checkFound(t *testing.T, m *mend.Mended, writes []api.Write) {
	t.Helper()
	l, e := audit.Findings(m.Image(), 1)
	if e != api.OK {
		t.Fatal(e)
	}
	var want []int
	for _, f := range l {
		if f.Kind != api.FJournal {
			want = append(want, sectorOf(m, f))
		}
	}
	slices.Sort(want)
	if got := places(writes); !slices.Equal(got, slices.Compact(want)) {
		t.Fatalf("%v differ, and found is %v", got, l)
	}
}

// sectorOf is the sector of the head that a finding is of.
func sectorOf(m *mend.Mended, f api.Finding) int {
	g := m.Image().Geom()
	switch f.Kind {
	case api.FSuper:
		return f.At
	case api.FBitmap:
		return g.Bitmap + f.At
	case api.FBit:
		return g.Bitmap + f.At/480
	case api.FTag, api.FTagTwice, api.FDangling:
		return g.Tag + f.At
	case api.FSnap, api.FSnapID, api.FLayer, api.FParent, api.FCycle:
		return g.Snap + f.At
	case api.FCounts:
		return g.Count + f.At
	case api.FCount:
		return g.Count + f.At/15
	}
	return g.Dir + f.At
}

// checkDone: P25.4; and it is the same store behind it.
func checkDone(t *testing.T, m *mend.Mended, writes []api.Write) {
	t.Helper()
	d0, g := m.Image().Sectors(), m.Image().Geom()
	done := written(d0, append(slices.Clone(writes), api.Write{At: 2})...)
	if got := differ(t, done); len(got) > 0 {
		t.Fatalf("%d sectors, behind the writes: %v differ still", g.N, places(got))
	}
	if !slices.Equal(done[3:11], d0[3:11]) || !slices.Equal(done[g.Data:], d0[g.Data:]) {
		t.Fatalf("%d sectors: the journal or the data has changed: %v", g.N, places(writes))
	}
	again := mend.Of(imageOf(t, done))
	if !slices.Equal(lay.Head(again), lay.Head(m)) || !slices.Equal(lay.Head(again), done[:g.Data]) {
		t.Fatalf("%d sectors: another store behind the writes", g.N)
	}
	if found, e := audit.Findings(again.Image(), 1); e != api.OK || len(found) > 0 {
		t.Fatalf("%d sectors, behind the writes: %v, %d", g.N, found, e)
	}
}

// checkLeft: where some of the writes are laid, just the others are told, in their order.
func checkLeft(t *testing.T, l []api.Sector, writes []api.Write, laid func(i int) bool) {
	t.Helper()
	d0 := imageOf(t, l).Sectors()
	var now, left []api.Write
	for i, w := range writes {
		if laid(i) {
			now = append(now, w)
		} else {
			left = append(left, w)
		}
	}
	if got := differ(t, written(d0, append(now, api.Write{At: 2})...)); !slices.Equal(got, left) {
		t.Fatalf("%d sectors, with %v laid: %v differ, want %v", len(l), places(now), places(got), places(left))
	}
}

// is holds what is told against what is asked.
func is[T comparable](t *testing.T, got, want T) {
	t.Helper()
	if got != want {
		t.Errorf("%v, want %v", got, want)
	}
}

// differs holds where a disk differs.
func (d *disk) differs(want ...int) {
	d.t.Helper()
	if got := places(d.differ()); !slices.Equal(got, want) {
		d.t.Errorf("%d sectors: %v differ, want %v", len(d.l), got, want)
	}
}

// told is what the head has at slots of the directory, the tags and the snapshots that are not free.
func (d *disk) told() string {
	d.t.Helper()
	d.differ()
	head := lay.Head(d.mended())
	var l []string
	for at := d.g.Dir; at < d.g.Count; at++ {
		switch s := head[at]; s[0] {
		case 0x42:
			l = append(l, fmt.Sprintf("%d%c", at-d.g.Dir, "?LQ"[s[1]]))
		case 0x54:
			l = append(l, fmt.Sprintf("%d:%s", at-d.g.Tag, s[2:2+s[1]]))
		case 0x53:
			l = append(l, fmt.Sprintf("%d:%d<%d", at-d.g.Snap, s[4], s[8]))
		}
	}
	return strings.Join(l, " ")
}
