package audit_test

import (
	"math"
	"testing"

	"assay/api"
	"assay/audit"
	"assay/image"
)

// refused holds that both calls answer ErrArg, and nothing beside it.
func refused(t *testing.T, im *image.Image, workers int) {
	t.Helper()
	if l, e := audit.Findings(im, workers); e != api.ErrArg || len(l) != 0 {
		t.Errorf("Findings with %d workers: %v, %d", workers, l, e)
	}
	for _, kinds := range [][]int{nil, {api.FSuper}, {0}, {99, -1}, kinds()} {
		if l, e := audit.Parts(im, workers, kinds...); e != api.ErrArg || len(l) != 0 {
			t.Errorf("Parts with %d workers of %v: %v, %d", workers, kinds, l, e)
		}
	}
}

// P23.1: no image, whoever would work.
func TestNoImage(t *testing.T) {
	for _, workers := range []int{math.MinInt, -1, 0, 1, 2, 7, 8, 9, math.MaxInt} {
		refused(t, nil, workers)
	}
}

// P23.1: numbers of workers that may not be, on disks on which something is wrong and on which nothing is.
func TestNoSuchNumberOfWorkers(t *testing.T) {
	if audit.MaxWorkers != 8 {
		t.Error(audit.MaxWorkers)
	}
	for _, n := range few() {
		for _, d := range []*disk{zeros(t, n), emptyStore(t, n)} {
			for _, workers := range []int{math.MinInt, math.MinInt32, -1<<32 + 1, -8, -1, 0, 9, 10, 16, 257, 1 << 16, 1<<32 + 1, math.MaxInt32, math.MaxInt} {
				refused(t, d.image(), workers)
			}
		}
	}
}

// P23.1: just those from 1 to MaxWorkers may.
func TestEachNumberOfWorkers(t *testing.T) {
	im := zeros(t, 64).image()
	for workers := 1; workers <= audit.MaxWorkers; workers++ {
		if l := found(t, im, workers); len(l) != 4 {
			t.Errorf("%d workers: %v", workers, l)
		}
		if l := parts(t, im, workers, api.FSuper); len(l) != 2 {
			t.Errorf("%d workers: %v", workers, l)
		}
	}
}

// The chapter's examples.
func TestExamplesOfTheChapter(t *testing.T) {
	zeros(t, 64).finds(f(api.FSuper, 0), f(api.FSuper, 1), f(api.FBitmap, 0), f(api.FCounts, 0))
	emptyStore(t, 64).finds()
	d := emptyStore(t, 64)
	d.turn(40, 3)
	d.finds(f(api.FBit, 3), f(api.FBit, 40))
	d = emptyStore(t, 64)
	d.count(2, 7)
	d.finds(f(api.FCount, 2))
	d = emptyStore(t, 64)
	d.l[2][63] = 1
	d.finds(f(api.FJournal, 0))
	refused(t, nil, 1)
	refused(t, d.image(), 0)
	refused(t, d.image(), 9)
	d.turn(40, 3)
	if l := parts(t, d.image(), 1); len(l) != 0 {
		t.Error(l)
	}
	if l := parts(t, d.image(), 1, api.FBit, api.FBit, 99); len(l) != 2 || l[0] != f(api.FBit, 3) || l[1] != f(api.FBit, 40) {
		t.Error(l)
	}
}

// DOC.md's examples 2 and 3.
func TestExamplesOfZerosAndOneEntry(t *testing.T) {
	d := zeros(t, 64)
	d.finds(f(api.FSuper, 0), f(api.FSuper, 1), f(api.FBitmap, 0), f(api.FCounts, 0))
	d.mend().finds()
	d = emptyStore(t, 64)
	d.blob(0, "abc")
	d.finds(f(api.FBit, 29))
	d = emptyStore(t, 64)
	d.corrupt(0, "abc")
	d.finds(f(api.FBit, 29), f(api.FCorrupt, 0))
	d.turn(29)
	d.finds(f(api.FCorrupt, 0))
}

// DOC.md's examples 4 and 5.
func TestExamplesOfCrowdsAndTwins(t *testing.T) {
	d := zeros(t, 64)
	d.corrupt(1, "x")
	d.corrupt(2, "y")
	d.corrupt(5, "z")
	d.settle().finds(f(api.FCorrupt, 1), f(api.FCorrupt, 2), f(api.FCorrupt, 5), f(api.FCrowd, 5))
	d.quarantine(5, "z")
	d.settle().finds(f(api.FCorrupt, 1), f(api.FCorrupt, 2), f(api.FCrowd, 5))
	d = zeros(t, 64)
	d.blob(3, "abc")
	d.blob(4, "abc")
	d.settle().finds(f(api.FSame, 4))
	d.l[d.g.Dir+4] = d.l[d.g.Dir+3]
	d.finds(f(api.FSame, 4))
	d = zeros(t, 64)
	d.blob(3, "ab")
	d.entry(4, api.Entry{State: api.Live, Start: 29, Length: 1, Key: keyOf("a")})
	d.settle().finds(f(api.FOver, 4))
}

// DOC.md's examples 6 and 10.
func TestExamplesOfTags(t *testing.T) {
	d := zeros(t, 128)
	m := d.doc(2, api.Manifest, api.Desc{Key: nowhere(1), Size: 5})
	x := d.doc(3, api.Index, m)
	d.tag(1, "v1", x.Key)
	d.l[d.g.Dir+2] = api.Sector{}
	d.settle().finds(f(api.FDangling, 1))
	d = zeros(t, 128)
	b := d.blob(0, "abc")
	x = d.doc(1, api.Index, api.Desc{Key: b.Key, Size: 4})
	d.tag(0, "v1", x.Key)
	d.settle().finds(f(api.FDangling, 0))
	d.count(0, 1)
	d.finds(f(api.FDangling, 0), f(api.FCount, 0))
}

// DOC.md's example 7.
func TestExampleOfSnapshots(t *testing.T) {
	d := zeros(t, 64)
	b := d.blob(0, "abc")
	d.snap(0, 5, 7, b.Key)
	d.snap(1, 7, 9, b.Key)
	d.snap(3, 9, 5, b.Key)
	d.settle().finds(f(api.FCycle, 0))
	d.snap(3, 9, 5, nowhere(1))
	d.finds(f(api.FLayer, 3), f(api.FParent, 1))
}

// DOC.md's example 8.
func TestExampleOfMarks(t *testing.T) {
	d := emptyStore(t, 64)
	d.tag(0, "v1", nowhere(1))
	torn := d.l[20]
	torn[9]++
	d.commit(api.Write{At: 20, Data: torn})
	d.finds(f(api.FJournal, 0), f(api.FTag, 0)) // judged is the tag that the journal has
	d.commit(api.Write{At: 20})
	d.finds(f(api.FJournal, 0))
	d.l[3][0] = 1 // the mark is rubbish now
	d.finds(f(api.FJournal, 0), f(api.FDangling, 0))
	for _, targets := range [][]int{{5}, {21, 20}, {20, 20}, {2}, {64}} {
		d := emptyStore(t, 64)
		for i, at := range targets {
			d.l[3+i] = api.Sector{1}
			d.target(i, at)
		}
		d.finds(f(api.FJournal, 0))
	}
}
