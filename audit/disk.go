package audit

import (
	"slices"

	"assay/api"
	"assay/forest"
	"assay/graph"
	"assay/image"
	"assay/store"
)

// What an image tells by numbers that chapters 9 and 17 give.
const (
	emptyMark = 1
	rightSlot = 2
	tornSlot  = 3
)

// supers is how many superblocks a disk has.
const supers = 2

// disk is all that findings are told of. It is made ahead of the look, and doesn't change.
type disk struct {
	image  *image.Image
	store  *store.Store
	graph  *graph.Graph
	forest forest.Forest
}

// judge is the disk that an image is of.
func judge(im *image.Image) *disk {
	s := store.Of(im)
	return &disk{image: im, store: s, graph: graph.Of(s), forest: forest.Of(rows(s))}
}

// rows is the slots of the snapshots.
func rows(s *store.Store) []forest.Row {
	l := make([]forest.Row, s.Image().Geom().Snaps)
	for slot := range l {
		snap, kind := s.Image().Snap(slot)
		_, layer := s.Find(snap.Layer)
		l[slot] = forest.Row{There: kind == rightSlot, Layer: layer, Snap: snap}
	}
	return l
}

// wrong is the numbers at which there is a finding of a kind; none, if it is no kind.
func (d *disk) wrong(kind int) []int {
	g := d.image.Geom()
	switch kind {
	case api.FJournal:
		return where(1, d.markWrong)
	case api.FSuper:
		return where(supers, d.superWrong)
	case api.FBitmap:
		return d.image.Bitmaps()
	case api.FBit:
		return where(g.N, d.bitWrong)
	case api.FSlot, api.FSame, api.FOver, api.FCorrupt, api.FCrowd:
		return where(g.Slots, func(slot int) bool { return slices.Contains(d.store.Wrong(slot), kind) })
	case api.FTag:
		return where(g.Tags, d.tagTorn)
	case api.FTagTwice:
		return d.tagsTwice()
	case api.FDangling:
		return where(g.Tags, d.tagDangling)
	case api.FSnap:
		return where(g.Snaps, d.snapTorn)
	case api.FSnapID:
		return d.forest.Twice
	case api.FLayer:
		return d.forest.NoLayer
	case api.FParent:
		return d.forest.NoParent
	case api.FCycle:
		return d.forest.Cycles
	case api.FCounts:
		return d.image.Counts()
	case api.FCount:
		return where(g.Slots, d.countWrong)
	}
	return nil
}

// where is the numbers below n of which something holds, rising.
func where(n int, holds func(at int) bool) []int {
	var l []int
	for at := range n {
		if holds(at) {
			l = append(l, at)
		}
	}
	return l
}

func (d *disk) markWrong(int) bool { return d.image.Mark() != emptyMark }

func (d *disk) superWrong(i int) bool { return !d.image.Super(i) }

func (d *disk) bitWrong(sector int) bool {
	bit, known := d.image.Bit(sector)
	return known && bit != (sector < d.image.Geom().Head() || d.store.Taken(sector))
}

func (d *disk) countWrong(slot int) bool {
	count, known := d.image.Count(slot)
	return known && count != uint32(d.graph.Degree(slot))
}

func (d *disk) tagTorn(slot int) bool {
	_, kind := d.image.Tag(slot)
	return kind == tornSlot
}

func (d *disk) snapTorn(slot int) bool {
	_, kind := d.image.Snap(slot)
	return kind == tornSlot
}

func (d *disk) tagDangling(slot int) bool {
	tag, kind := d.image.Tag(slot)
	return kind == rightSlot && !d.whole(tag)
}

// tagsTwice is the tags with their closure whose name a lower one with its closure has: of these the lowest counts.
func (d *disk) tagsTwice() []int {
	names := map[string]struct{}{}
	return where(d.image.Geom().Tags, func(slot int) bool {
		tag, kind := d.image.Tag(slot)
		if kind != rightSlot || !d.whole(tag) {
			return false
		}
		_, twice := names[tag.Name]
		names[tag.Name] = struct{}{}
		return twice
	})
}

// whole tells whether the closure of a tag's key is there.
func (d *disk) whole(tag api.Tag) bool {
	slot, ok := d.store.Find(tag.Key)
	return ok && d.graph.Whole(slot)
}
