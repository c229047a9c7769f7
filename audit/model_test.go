package audit_test

import (
	"crypto/sha256"
	"slices"

	"assay/api"
	"assay/bits"
	"assay/geom"
	"assay/image"
	"assay/manifest"
	"assay/slot"
	"assay/super"
	"assay/table"
)

// What an entry is.
const (
	lost = 0
	good = 1
	kept = 2
)

// held is what a slot of the directory has.
type held struct {
	entry   api.Entry
	kind    int // free, right or torn
	fits    bool
	sectors []int
	names   []api.Desc
	what    int
	whole   bool
	degree  uint32
}

// live and other: with a state of 1, and what only the quarantine may keep.
func (x held) live() bool  { return x.kind == slot.Right && x.entry.State == api.Live }
func (x held) other() bool { return x.kind == slot.Right && !(x.live() && x.fits) }

// shares tells whether two entries have a sector in common.
func (x held) shares(y held) bool {
	return slices.ContainsFunc(x.sectors, func(at int) bool { return slices.Contains(y.sectors, at) })
}

// reading is a disk read once more, by DOC.md's words: each question is asked of all slots anew.
type reading struct {
	im    *image.Image
	g     geom.Geom
	slots []held
	tags  []bool // those that count
	snaps []bool
}

// read is the reading of an image.
func read(im *image.Image) *reading {
	r := &reading{im: im, g: im.Geom()}
	r.slots = make([]held, r.g.Slots)
	for i := range r.slots {
		r.slots[i] = heldAt(im, i)
	}
	r.findGood()
	r.findKept()
	r.follow()
	r.tags, r.snaps = make([]bool, r.g.Tags), make([]bool, r.g.Snaps)
	for i := range r.tags {
		r.tags[i] = r.tagWhole(i) && !r.tagLower(i)
	}
	for i := range r.snaps {
		r.snaps[i] = r.snapLayer(i) && !r.snapLower(i)
	}
	return r
}

// heldAt is a slot by itself.
func heldAt(im *image.Image, i int) held {
	var x held
	x.entry, x.kind = im.Entry(i)
	for left := x.entry.Length; left > 0; left -= 64 {
		x.sectors = append(x.sectors, x.entry.Start+len(x.sectors))
	}
	x.fits = sha256.Sum256(im.Bytes(x.entry)) == x.entry.Key
	return x
}

// findGood tells which entries are good.
func (r *reading) findGood() {
	for i := range r.slots {
		x := &r.slots[i]
		if x.live() && x.fits && !r.sameLower(i) && !r.goodLower(i) {
			x.what = good
			_, x.names = manifest.Read(r.im.Bytes(x.entry))
		}
	}
}

// findKept tells which are kept in quarantine.
func (r *reading) findKept() {
	room := len(r.slots) / 4
	for i := range r.slots {
		if r.slots[i].other() && !r.overOther(i) && room > 0 {
			r.slots[i].what = kept
			room--
		}
	}
}

// sameLower tells whether a good one of a lower slot has this key.
func (r *reading) sameLower(i int) bool {
	return slices.ContainsFunc(r.slots[:i], func(y held) bool { return y.what == good && y.entry.Key == r.slots[i].entry.Key })
}

// goodLower tells whether a good one of a lower slot has one of these sectors.
func (r *reading) goodLower(i int) bool {
	return slices.ContainsFunc(r.slots[:i], func(y held) bool { return y.what == good && y.shares(r.slots[i]) })
}

// overOther tells whether any good one, or a kept one of a lower slot, has one of these sectors.
func (r *reading) overOther(i int) bool {
	for k, y := range r.slots {
		if (y.what == good || y.what == kept && k < i) && y.shares(r.slots[i]) {
			return true
		}
	}
	return false
}

// meets is the slot that a descriptor meets, or -1.
func (r *reading) meets(d api.Desc) int {
	return slices.IndexFunc(r.slots, func(x held) bool { return x.what == good && x.entry.Key == d.Key && x.entry.Length == d.Size })
}

// follow tells how often the good ones are named, and whose closure is there: whoever names somebody whose closure isn't there is struck out, till nobody is.
func (r *reading) follow() {
	for i := range r.slots {
		r.slots[i].whole = r.slots[i].what == good
		for _, d := range r.slots[i].names {
			if at := r.meets(d); at >= 0 {
				r.slots[at].degree++
			}
		}
	}
	for struck := true; struck; {
		struck = false
		for i := range r.slots {
			if r.slots[i].whole && slices.ContainsFunc(r.slots[i].names, r.lacks) {
				r.slots[i].whole, struck = false, true
			}
		}
	}
}

// lacks tells whether a descriptor meets nobody, or somebody who has been struck out.
func (r *reading) lacks(d api.Desc) bool {
	at := r.meets(d)
	return at < 0 || !r.slots[at].whole
}

// find is the slot of the good entry with a key, or -1.
func (r *reading) find(key api.Digest) int {
	return slices.IndexFunc(r.slots, func(x held) bool { return x.what == good && x.entry.Key == key })
}

// tagWhole tells whether a tag stands there with its closure.
func (r *reading) tagWhole(i int) bool {
	tag, kind := r.im.Tag(i)
	at := r.find(tag.Key)
	return kind == table.Right && at >= 0 && r.slots[at].whole
}

// tagLower tells whether a tag that counts, at a lower slot, has the name of this one.
func (r *reading) tagLower(i int) bool {
	tag, _ := r.im.Tag(i)
	for k := range i {
		if lower, _ := r.im.Tag(k); r.tags[k] && lower.Name == tag.Name {
			return true
		}
	}
	return false
}

// snapLayer tells whether a snapshot stands there with its layer.
func (r *reading) snapLayer(i int) bool {
	snap, kind := r.im.Snap(i)
	return kind == table.Right && r.find(snap.Layer) >= 0
}

// snapLower tells whether a snapshot that counts, at a lower slot, has the id of this one.
func (r *reading) snapLower(i int) bool {
	snap, _ := r.im.Snap(i)
	for k := range i {
		if lower, _ := r.im.Snap(k); r.snaps[k] && lower.ID == snap.ID {
			return true
		}
	}
	return false
}

// parent is the slot of the snapshot that counts with the parent's id, or -1.
func (r *reading) parent(i int) int {
	snap, _ := r.im.Snap(i)
	for k := range r.snaps {
		if above, _ := r.im.Snap(k); r.snaps[k] && above.ID == snap.Parent {
			return k
		}
	}
	return -1
}

// leads tells whether the parents of a snapshot that counts lead back to it, and no lesser id lies on the way.
func (r *reading) leads(i int) bool {
	if !r.snaps[i] {
		return false
	}
	snap, _ := r.im.Snap(i)
	at := r.parent(i)
	for range r.snaps {
		if at < 0 || at == i {
			break
		}
		if above, _ := r.im.Snap(at); above.ID < snap.ID {
			return false
		}
		at = r.parent(at)
	}
	return at == i
}

// taken tells whether a sector's bit will be 1.
func (r *reading) taken(at int) bool {
	return at < r.g.Data || slices.ContainsFunc(r.slots, func(x held) bool { return x.what != lost && slices.Contains(x.sectors, at) })
}

// is tells whether there is a finding of a kind at a number: DOC.md's table, a line each.
func (r *reading) is(kind, at int) bool {
	switch kind {
	case api.FJournal:
		return at == 0 && r.im.Mark() != 1
	case api.FSuper:
		return at < 2 && !r.im.Super(at)
	case api.FBitmap:
		return slices.Contains(r.im.Bitmaps(), at)
	case api.FBit:
		bit, known := r.im.Bit(at)
		return known && bit != r.taken(at)
	case api.FCounts:
		return slices.Contains(r.im.Counts(), at)
	case api.FCount:
		count, known := r.im.Count(at)
		return known && count != r.slots[at].degree
	case api.FTag, api.FTagTwice, api.FDangling:
		return at < r.g.Tags && r.isTag(kind, at)
	case api.FSnap, api.FSnapID, api.FLayer, api.FParent, api.FCycle:
		return at < r.g.Snaps && r.isSnap(kind, at)
	}
	return at < r.g.Slots && r.isSlot(kind, at)
}

// isSlot is the lines of the directory.
func (r *reading) isSlot(kind, at int) bool {
	x := r.slots[at]
	same := x.live() && x.fits && r.sameLower(at)
	over := x.live() && x.fits && !same && r.goodLower(at) || x.other() && r.overOther(at)
	switch kind {
	case api.FSlot:
		return x.kind == slot.Torn
	case api.FSame:
		return same
	case api.FOver:
		return over
	case api.FCorrupt:
		return x.live() && !x.fits
	}
	return x.other() && x.what == lost && !over
}

// isTag is the lines of the tags.
func (r *reading) isTag(kind, at int) bool {
	_, state := r.im.Tag(at)
	switch kind {
	case api.FTag:
		return state == table.Torn
	case api.FTagTwice:
		return r.tagWhole(at) && r.tagLower(at)
	}
	return state == table.Right && !r.tagWhole(at)
}

// isSnap is the lines of the snapshots.
func (r *reading) isSnap(kind, at int) bool {
	snap, state := r.im.Snap(at)
	switch kind {
	case api.FSnap:
		return state == table.Torn
	case api.FSnapID:
		return r.snapLayer(at) && r.snapLower(at)
	case api.FLayer:
		return state == table.Right && !r.snapLayer(at)
	case api.FParent:
		return r.snaps[at] && snap.Parent != 0 && r.parent(at) < 0
	}
	return r.leads(at)
}

// findings is all of them, in order.
func (r *reading) findings() []api.Finding {
	var l []api.Finding
	for kind := 1; kind <= 19; kind++ {
		for at := range 1024 {
			if r.is(kind, at) {
				l = append(l, api.Finding{Kind: kind, At: at})
			}
		}
	}
	return l
}

// laid is the disk with the store as it will be.
func (r *reading) laid() []api.Sector {
	l := r.im.Sectors()
	l[0], _ = super.Put(r.g.N)
	l[1], l[2] = l[0], api.Sector{}
	copy(l[r.g.Bitmap:], r.bitmap())
	for i, x := range r.slots {
		l[r.g.Dir+i] = api.Sector{}
		if x.what != lost {
			x.entry.State = x.what // a good one is live
			l[r.g.Dir+i], _ = slot.Put(x.entry, r.g.N)
		}
	}
	for i, counts := range r.tags {
		if !counts {
			l[r.g.Tag+i] = api.Sector{}
		}
	}
	for i, counts := range r.snaps {
		snap, _ := r.im.Snap(i)
		if r.is(api.FParent, i) || r.is(api.FCycle, i) {
			snap.Parent = 0
		}
		l[r.g.Snap+i] = api.Sector{}
		if counts {
			l[r.g.Snap+i], _ = table.PutSnap(snap)
		}
	}
	copy(l[r.g.Count:], r.counts())
	return l
}

// bitmap is the bitmap's sectors as they will be.
func (r *reading) bitmap() []api.Sector {
	b := make([]bool, r.g.N)
	for at := range b {
		b[at] = r.taken(at)
	}
	return bits.Put(b)
}

// counts is the counts' sectors as they will be.
func (r *reading) counts() []api.Sector {
	var l []api.Sector
	var degrees []uint32
	for i, x := range r.slots {
		degrees = append(degrees, x.degree)
		if len(degrees) == 15 || i == len(r.slots)-1 {
			s, _ := table.PutCounts(degrees)
			l, degrees = append(l, s), nil
		}
	}
	return l
}
