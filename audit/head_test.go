package audit_test

import (
	"slices"
	"testing"

	"assay/api"
	"assay/super"
)

// family is a store in which nothing is wrong, spread over a disk of n sectors: a blob, a manifest that names it, an index that names the manifest twice, a quarantined entry, two tags, three snapshots. Each slot is told by at.
func family(t *testing.T, n int) *disk {
	d := zeros(t, n)
	blob := d.blob(d.at(0), "abc")
	d.next++ // a data sector that is nobody's
	page := d.doc(d.at(1), api.Manifest, blob)
	index := d.doc(d.at(2), api.Index, page, page)
	d.quarantine(d.at(3), "kept")
	d.tag(0, "v1", index.Key)
	d.tag(d.g.Tags-1, "v2", blob.Key)
	d.snap(0, 5, 0, blob.Key)
	d.snap(1, 7, 5, index.Key)
	d.snap(d.g.Snaps-1, 9, 7, page.Key)
	return d.settle()
}

// at is the slot of one of eight that are spread over the directory; the last one is its last slot.
func (d *disk) at(i int) int {
	if i == 7 {
		return d.g.Slots - 1
	}
	return i * (d.g.Slots / 8)
}

// P23.2, P23.4: nothing is wrong, and nothing is found.
func TestNothingIsWrong(t *testing.T) {
	for _, n := range sizes() {
		emptyStore(t, n).finds()
		family(t, n).finds()
	}
}

// FJournal: a mark that is committed; the disk is judged behind its replay, and a batch may change nothing or make all right.
func TestCommittedMarks(t *testing.T) {
	for _, n := range sizes() {
		d := family(t, n)
		d.commit(api.Write{At: n - 1, Data: api.Sector{9}})
		d.finds(f(api.FJournal, 0))
		d.commit(api.Write{At: 0, Data: d.l[0]}, api.Write{At: d.g.Tag + 1})
		d.finds(f(api.FJournal, 0))
		right := d.l[1]
		d.l[1], d.l[d.g.Tag+1] = api.Sector{}, api.Sector{1}
		d.commit(api.Write{At: 1, Data: right}, api.Write{At: d.g.Tag + 1})
		d.finds(f(api.FJournal, 0))
		d.commit(api.Write{At: 1, Data: api.Sector{1}}, api.Write{At: d.g.Snap + 2, Data: api.Sector{1}})
		d.finds(f(api.FJournal, 0), f(api.FSuper, 1), f(api.FTag, 1), f(api.FSnap, 2))
	}
}

// FJournal: a mark that is rubbish; nothing is replayed.
func TestRubbishMarks(t *testing.T) {
	for _, n := range sizes() {
		for at := range 64 {
			d := family(t, n)
			d.l[2][at] = 1
			if at%16 == 0 {
				d.finds(f(api.FJournal, 0))
			}
			if got := found(t, d.image(), 1+at%8); !slices.Equal(got, []api.Finding{f(api.FJournal, 0)}) {
				t.Fatalf("%d sectors, byte %d: %v", n, at, got)
			}
		}
		d := family(t, n)
		d.commit(api.Write{At: d.g.Tag, Data: api.Sector{1}})
		d.l[3][5]++
		d.finds(f(api.FJournal, 0))
		d.tear(d.g.Tag)
		d.finds(f(api.FJournal, 0), f(api.FTag, 0))
	}
}

// FSuper: either superblock, and both; other bytes, and the superblock of other disks.
func TestSuperblocks(t *testing.T) {
	for _, n := range sizes() {
		for _, bad := range [][]int{{0}, {1}, {0, 1}} {
			var want []api.Finding
			d, other, blank := family(t, n), family(t, n), family(t, n)
			for _, i := range bad {
				want = append(want, f(api.FSuper, i))
				d.tear(i)
				other.l[i], _ = super.Put(64 + (n-63)%961) // one sector more; of the greatest the least
				blank.l[i] = api.Sector{}
			}
			d.finds(want...)
			other.finds(want...)
			blank.finds(want...)
		}
	}
}

// some is the lists that have some of k numbers: each by itself, all, and the first with the last.
func some(k int) [][]int {
	var l [][]int
	var all []int
	for i := range k {
		l = append(l, []int{i})
		all = append(all, i)
	}
	return append(l, all, slices.Compact([]int{0, k - 1}))
}

// FBitmap: each of the bitmap's sectors, several and all. Of the bits of a torn one nothing is told, and of the others all is.
func TestTornBitmaps(t *testing.T) {
	for _, n := range sizes() {
		for _, bad := range some((n + 479) / 480) {
			d := family(t, n)
			var torn, wrong []api.Finding
			for at := range n {
				if at%7 == 3 {
					d.turn(at)
					if !slices.Contains(bad, at/480) {
						wrong = append(wrong, f(api.FBit, at))
					}
				}
			}
			for _, i := range bad {
				torn = append(torn, f(api.FBitmap, i))
				d.tear(d.g.Bitmap + i)
			}
			d.finds(slices.Concat(torn, wrong)...)
		}
	}
}

// FBitmap: a bit of a sector that there isn't makes the bitmap's last sector torn, and is no FBit.
func TestBitsOfNoSector(t *testing.T) {
	for _, n := range sizes() {
		if n%480 == 0 {
			continue
		}
		for _, at := range []int{n, n - n%480 + 479} {
			d := family(t, n)
			d.turn(at)
			d.finds(f(api.FBitmap, n/480))
		}
	}
}

// FBit: every bit by itself, from 1 to 0 and from 0 to 1: in the head, of good and of kept entries, and of nobody's sectors.
func TestEachBit(t *testing.T) {
	for _, n := range sizes() {
		d := family(t, n)
		for at := range n {
			d.turn(at)
			if got := found(t, d.image(), 1+at%8); !slices.Equal(got, []api.Finding{f(api.FBit, at)}) {
				t.Fatalf("%d sectors, bit %d: %v", n, at, got)
			}
			d.turn(at)
		}
		d.finds()
		var all []api.Finding
		for at := range n {
			d.turn(at)
			all = append(all, f(api.FBit, at))
		}
		d.finds(all...)
	}
}

// FBit: the sectors of a lost entry are nobody's, unless one that is kept has them too.
func TestBitsOfEntries(t *testing.T) {
	for _, n := range sizes() {
		d := emptyStore(t, n)
		first := d.next
		d.blob(0, string(make([]byte, 130))) // good: three sectors
		d.corrupt(1, string(make([]byte, 70)))
		d.quarantine(2, "q")
		d.blob(3, string(make([]byte, 130))) // lost: the key is slot 0's
		d.entry(4, api.Entry{State: api.Live, Start: first + 2, Length: 64, Key: keyOf(string(make([]byte, 64)))})
		d.finds(
			f(api.FBit, first), f(api.FBit, first+1), f(api.FBit, first+2), f(api.FBit, first+3), f(api.FBit, first+4), f(api.FBit, first+5),
			f(api.FSame, 3), f(api.FOver, 4), f(api.FCorrupt, 1),
		)
		d.settle()
		d.turn(first+2, first+4, first+5, first+6, first+8, first+9)
		d.finds(
			f(api.FBit, first+2), f(api.FBit, first+4), f(api.FBit, first+5), f(api.FBit, first+6), f(api.FBit, first+8), f(api.FBit, first+9),
			f(api.FSame, 3), f(api.FOver, 4), f(api.FCorrupt, 1),
		)
	}
}

// FCounts: each sector of counts, several and all. Of the counts of a torn one nothing is told, and of the others all is.
func TestTornCounts(t *testing.T) {
	for _, n := range sizes() {
		for _, bad := range some((n/8 + 14) / 15) {
			d := family(t, n)
			var torn, wrong []api.Finding
			for at := range n / 8 {
				if at%4 == 3 {
					d.count(at, 77)
					if !slices.Contains(bad, at/15) {
						wrong = append(wrong, f(api.FCount, at))
					}
				}
			}
			for _, i := range bad {
				torn = append(torn, f(api.FCounts, i))
				d.tear(d.g.Count + i)
			}
			d.finds(slices.Concat(torn, wrong)...)
		}
	}
}

// FCounts: a count of a slot that there isn't makes the last sector of counts torn, and is no FCount.
func TestCountsOfNoSlot(t *testing.T) {
	for _, n := range sizes() {
		slots := n / 8
		if slots%15 == 0 {
			continue
		}
		for _, at := range []int{slots, slots - slots%15 + 14} {
			d := family(t, n)
			d.count(at, 1)
			d.finds(f(api.FCounts, slots/15))
		}
	}
}

// FCount: every count by itself: of good entries, of kept and of free slots; too great, too small, and such that its lowest bits are right.
func TestEachCount(t *testing.T) {
	for _, n := range sizes() {
		d := family(t, n)
		was := slices.Clone(d.l)
		degrees := map[int]uint32{d.at(0): 1, d.at(1): 2}
		for at := range n / 8 {
			right := degrees[at]
			for i, v := range []uint32{right - 1, right + 1, right + 1<<8, right + 1<<16, right + 1<<31, 1<<32 - 1, 0} {
				d.count(at, v)
				var want []api.Finding
				if v != right {
					want = []api.Finding{f(api.FCount, at)}
				}
				if got := found(t, d.image(), 1+i); !slices.Equal(got, want) {
					t.Fatalf("%d sectors, the count of %d made %d: %v", n, at, v, got)
				}
			}
			d.count(at, right)
		}
		if !slices.Equal(d.l, was) {
			t.Fatal("the disk is another one")
		}
	}
}

// FCount: a lost entry's and a kept one's count is 0, whoever names their keys; so is that of a good one that only others name.
func TestCountsOfEntries(t *testing.T) {
	for _, n := range []int{128, 481, 1024} {
		d := zeros(t, n)
		blob := d.blob(d.at(0), "abc")
		d.blob(d.at(1), "abc")          // lost
		bad := d.corrupt(d.at(2), "de") // kept
		page := d.doc(d.at(3), api.Manifest, blob, bad, blob, api.Desc{Key: blob.Key, Size: 4})
		lost := d.doc(d.at(4), api.Index, blob, page)
		d.tear(d.g.Dir + d.at(4))
		d.doc(d.at(5), api.Index, lost, page)
		d.settle().finds(f(api.FSlot, d.at(4)), f(api.FSame, d.at(1)), f(api.FCorrupt, d.at(2)))
		d.count(d.at(0), 3) // as if the lost document, or the wrong size, counted
		d.count(d.at(1), 2)
		d.count(d.at(2), 1)
		d.count(d.at(3), 1)
		d.count(d.at(4), 1)
		d.count(d.at(7), 1)
		d.finds(f(api.FSlot, d.at(4)), f(api.FSame, d.at(1)), f(api.FCorrupt, d.at(2)),
			f(api.FCount, d.at(0)), f(api.FCount, d.at(1)), f(api.FCount, d.at(2)), f(api.FCount, d.at(4)), f(api.FCount, d.at(7)))
	}
}
