package mend_test

import (
	"crypto/sha256"
	"slices"

	"assay/api"
	"assay/image"
	"assay/manifest"
	"assay/slot"
	"assay/table"
)

// will is a store as it will be. What stands in none of its tables is none there, and 0 or false.
type will struct {
	entries map[int]api.Entry
	tags    map[int]api.Tag
	snaps   map[int]api.Snap
	counts  map[int]uint32
	taken   map[int]bool
	dropped []int
}

func nothing() will {
	return will{map[int]api.Entry{}, map[int]api.Tag{}, map[int]api.Snap{}, map[int]uint32{}, map[int]bool{}, nil}
}

// reading is a disk read once more, by DOC.md's words alone: each question is asked of all slots anew.
type reading struct {
	im    *image.Image
	slots []held
}

// held is what a slot of the directory has.
type held struct {
	entry      api.Entry
	right      bool // an entry can be read there
	fits       bool // its bytes have its key
	good, kept bool
	whole      bool
	names      []api.Desc
}

// read is the store as it will be, of an image.
func read(im *image.Image) will {
	r := &reading{im: im, slots: make([]held, im.N()/8)}
	for i := range r.slots {
		e, kind := im.Entry(i)
		r.slots[i] = held{entry: e, right: kind == slot.Right, fits: sha256.Sum256(im.Bytes(e)) == e.Key}
	}
	w := nothing()
	r.findGood()
	w.dropped = r.findKept()
	r.strike()
	r.tellEntries(w)
	r.tellTags(w)
	r.tellSnaps(w)
	return w
}

// over tells whether two entries have a sector in common.
func over(a, b api.Entry) bool {
	for x := a.Start; x < a.Start+(a.Length+63)/64; x++ {
		if x >= b.Start && x < b.Start+(b.Length+63)/64 {
			return true
		}
	}
	return false
}

func (r *reading) findGood() {
	for i := range r.slots {
		x := &r.slots[i]
		x.good = x.right && x.entry.State == api.Live && x.fits
		for _, low := range r.slots[:i] {
			if low.good && (low.entry.Key == x.entry.Key || over(low.entry, x.entry)) {
				x.good = false
			}
		}
		if x.good {
			_, x.names = manifest.Read(r.im.Bytes(x.entry))
		}
	}
}

// findKept tells which are kept in quarantine, and answers those for which it had no room.
func (r *reading) findKept() []int {
	many := 0
	var dropped []int
	for i := range r.slots {
		x := &r.slots[i]
		if !x.right || x.entry.State == api.Live && x.fits || r.overOther(i) {
			continue
		}
		if many == len(r.slots)/4 {
			dropped = append(dropped, i)
			continue
		}
		x.kept = true
		many++
	}
	return dropped
}

// overOther tells whether a sector of an entry is a good one's, or a kept one's of a lower slot.
func (r *reading) overOther(i int) bool {
	for k, y := range r.slots {
		if (y.good || y.kept && k < i) && over(y.entry, r.slots[i].entry) {
			return true
		}
	}
	return false
}

// meets is the slot that a descriptor meets, or -1.
func (r *reading) meets(d api.Desc) int {
	return slices.IndexFunc(r.slots, func(x held) bool { return x.good && x.entry.Key == d.Key && x.entry.Length == d.Size })
}

// find is the slot of the good entry with a key, or -1.
func (r *reading) find(key api.Digest) int {
	return slices.IndexFunc(r.slots, func(x held) bool { return x.good && x.entry.Key == key })
}

// strike tells whose closure is there: whoever names somebody whose closure isn't there is struck out, till nobody is.
func (r *reading) strike() {
	for i := range r.slots {
		r.slots[i].whole = r.slots[i].good
	}
	lacks := func(d api.Desc) bool {
		at := r.meets(d)
		return at < 0 || !r.slots[at].whole
	}
	for struck := true; struck; {
		struck = false
		for i := range r.slots {
			if r.slots[i].whole && slices.ContainsFunc(r.slots[i].names, lacks) {
				r.slots[i].whole, struck = false, true
			}
		}
	}
}

// tellEntries tells the entries, the counts and what is taken.
func (r *reading) tellEntries(w will) {
	for at := range r.im.Geom().Data {
		w.taken[at] = true
	}
	for i, x := range r.slots {
		for _, d := range x.names {
			if at := r.meets(d); at >= 0 {
				w.counts[at]++
			}
		}
		if !x.good && !x.kept {
			continue
		}
		e := x.entry
		if x.kept {
			e.State = api.Quarantined
		}
		w.entries[i] = e
		for k := range (e.Length + 63) / 64 {
			w.taken[e.Start+k] = true
		}
	}
}

func (r *reading) tellTags(w will) {
	for i := range r.im.N() / 16 {
		tag, kind := r.im.Tag(i)
		at := r.find(tag.Key)
		counts := kind == table.Right && at >= 0 && r.slots[at].whole
		for _, low := range w.tags { // all of them of lower slots, and they count
			counts = counts && low.Name != tag.Name
		}
		if counts {
			w.tags[i] = tag
		}
	}
}

func (r *reading) tellSnaps(w will) {
	count := map[int]api.Snap{}
	for i := range r.im.N() / 16 {
		snap, kind := r.im.Snap(i)
		counts := kind == table.Right && r.find(snap.Layer) >= 0
		for _, low := range count {
			counts = counts && low.ID != snap.ID
		}
		if counts {
			count[i] = snap
		}
	}
	for i, snap := range count {
		snap.Parent = parentLeft(count, snap)
		w.snaps[i] = snap
	}
}

// parentLeft is the parent that a snapshot that counts will have: none, if none that counts has its id, or if the parents lead round and no lesser id lies on the way.
func parentLeft(count map[int]api.Snap, snap api.Snap) uint32 {
	above, ok := withID(count, snap.Parent)
	if !ok {
		return 0
	}
	least := snap.ID
	for range count {
		least = min(least, above.ID)
		if above.ID == snap.ID && least == snap.ID {
			return 0
		}
		if above, ok = withID(count, above.Parent); !ok {
			break
		}
	}
	return snap.Parent
}

// withID is the snapshot that counts with an id.
func withID(count map[int]api.Snap, id uint32) (api.Snap, bool) {
	for _, snap := range count {
		if snap.ID == id {
			return snap, true
		}
	}
	return api.Snap{}, false
}
