package drive_test

import (
	"crypto/sha256"
	"slices"

	"assay/api"
	"assay/manifest"
)

// reading is a disk read once more, by DOC.md's words alone: each question is asked of all slots anew. Only what a document names is asked of the program (manifest).
type reading struct {
	places
	mark  int
	batch []api.Write // that the mark tells
	d0    []api.Sector
	held  []held
	pins  []pin
	shots []shot
}

// held is what a slot of the directory has.
type held struct {
	entry      api.Entry
	right      bool
	torn       bool
	fits       bool // its bytes have its key
	good, kept bool
	whole      bool
	names      []api.Desc
	degree     uint32
	wrong      []int // kinds of findings
}

// pin is what a slot of the tags has.
type pin struct {
	tag    api.Tag
	counts bool
	wrong  []int
}

// shot is what a slot of the snapshots has.
type shot struct {
	snap   api.Snap
	counts bool
	parent uint32 // as it will be
	wrong  []int
}

// read is the reading of a disk.
func read(l []api.Sector) *reading {
	r := &reading{places: placesOf(len(l)), d0: slices.Clone(l)}
	r.mark, r.batch = markIn(l)
	for _, w := range r.batch {
		r.d0[w.At] = w.Data
	}
	if r.mark == committed {
		r.d0[2] = api.Sector{}
	}
	for i := range r.slots {
		r.held = append(r.held, r.heldAt(i))
	}
	r.findGood()
	r.findKept()
	r.follow()
	r.findTags()
	r.findSnaps()
	return r
}

// bytes is an entry's bytes.
func (r *reading) bytes(e api.Entry) []byte {
	var b []byte
	for i := range (e.Length + 63) / 64 {
		b = append(b, r.d0[e.Start+i][:]...)
	}
	return b[:e.Length]
}

// heldAt is a slot by itself.
func (r *reading) heldAt(i int) held {
	s := r.d0[r.dir+i]
	e, right := r.entry(s)
	if !right {
		torn := s != (api.Sector{})
		if torn {
			return held{torn: true, wrong: []int{api.FSlot}}
		}
		return held{}
	}
	return held{entry: e, right: true, fits: sha256.Sum256(r.bytes(e)) == e.Key}
}

// over tells whether two entries have a sector in common.
func over(a, b api.Entry) bool {
	for x := a.Start; x < a.Start+(a.Length+63)/64; x++ {
		if x >= b.Start && x < b.Start+(b.Length+63)/64 {
			return true
		}
	}
	return false
}

// findGood tells which entries are good, and of those that have their keys and aren't, why.
func (r *reading) findGood() {
	for i := range r.held {
		x := &r.held[i]
		if !x.right || x.entry.State != api.Live || !x.fits {
			continue
		}
		same, lies := false, false
		for _, low := range r.held[:i] {
			same = same || low.good && low.entry.Key == x.entry.Key
			lies = lies || low.good && over(low.entry, x.entry)
		}
		switch {
		case same:
			x.wrong = []int{api.FSame}
		case lies:
			x.wrong = []int{api.FOver}
		default:
			x.good = true
			_, x.names = manifest.Read(r.bytes(x.entry))
		}
	}
}

// findKept tells which are kept in quarantine, and what is wrong with them and with the others.
func (r *reading) findKept() {
	many := 0
	for i := range r.held {
		x := &r.held[i]
		if !x.right || x.entry.State == api.Live && x.fits {
			continue
		}
		if x.entry.State == api.Live {
			x.wrong = append(x.wrong, api.FCorrupt)
		}
		switch {
		case r.overOther(i):
			x.wrong = append(x.wrong, api.FOver)
		case many == r.room:
			x.wrong = append(x.wrong, api.FCrowd)
		default:
			x.kept = true
			many++
		}
	}
}

// overOther tells whether a sector of an entry is a good one's, or a kept one's of a lower slot.
func (r *reading) overOther(i int) bool {
	for k, y := range r.held {
		if (y.good || y.kept && k < i) && over(y.entry, r.held[i].entry) {
			return true
		}
	}
	return false
}

// meets is the slot that a descriptor meets, or -1.
func (r *reading) meets(d api.Desc) int {
	return slices.IndexFunc(r.held, func(x held) bool { return x.good && x.entry.Key == d.Key && x.entry.Length == d.Size })
}

// find is the slot of the good entry with a key, or -1.
func (r *reading) find(key api.Digest) int {
	return slices.IndexFunc(r.held, func(x held) bool { return x.good && x.entry.Key == key })
}

// follow tells how often the good ones are named, and whose closure is there: whoever names somebody whose closure isn't there is struck out, till nobody is.
func (r *reading) follow() {
	for i := range r.held {
		r.held[i].whole = r.held[i].good
		for _, d := range r.held[i].names {
			if at := r.meets(d); at >= 0 {
				r.held[at].degree++
			}
		}
	}
	lacks := func(d api.Desc) bool {
		at := r.meets(d)
		return at < 0 || !r.held[at].whole
	}
	for struck := true; struck; {
		struck = false
		for i := range r.held {
			if r.held[i].whole && slices.ContainsFunc(r.held[i].names, lacks) {
				r.held[i].whole, struck = false, true
			}
		}
	}
}

// findTags tells which tags count, and what is wrong with the others.
func (r *reading) findTags() {
	for i := range r.tags {
		s := r.d0[r.tag+i]
		tag, right := tagIn(s)
		at := r.find(tag.Key)
		p := pin{tag: tag}
		switch {
		case s == api.Sector{}:
		case !right:
			p.wrong = []int{api.FTag}
		case at < 0 || !r.held[at].whole:
			p.wrong = []int{api.FDangling}
		case slices.ContainsFunc(r.pins, func(low pin) bool { return low.counts && low.tag.Name == tag.Name }):
			p.wrong = []int{api.FTagTwice}
		default:
			p.counts = true
		}
		r.pins = append(r.pins, p)
	}
}

// findSnaps tells which snapshots count, with which parents, and what is wrong.
func (r *reading) findSnaps() {
	for i := range r.snaps {
		s := r.d0[r.snap+i]
		snap, right := snapIn(s)
		x := shot{snap: snap}
		switch {
		case s == api.Sector{}:
		case !right:
			x.wrong = []int{api.FSnap}
		case r.find(snap.Layer) < 0:
			x.wrong = []int{api.FLayer}
		case slices.ContainsFunc(r.shots, func(low shot) bool { return low.counts && low.snap.ID == snap.ID }):
			x.wrong = []int{api.FSnapID}
		default:
			x.counts = true
		}
		r.shots = append(r.shots, x)
	}
	for i := range r.shots {
		r.findParent(i)
	}
}

// above is the slot of the snapshot that counts with the id of one's parent, or -1.
func (r *reading) above(i int) int {
	return slices.IndexFunc(r.shots, func(x shot) bool { return x.counts && x.snap.ID == r.shots[i].snap.Parent })
}

// findParent tells the parent that a snapshot that counts will have.
func (r *reading) findParent(i int) {
	x := &r.shots[i]
	if !x.counts || x.snap.Parent == 0 {
		return
	}
	if r.above(i) < 0 {
		x.wrong = []int{api.FParent}
		return
	}
	x.parent = x.snap.Parent
	least := x.snap.ID
	at := i
	for range r.shots {
		if at = r.above(at); at < 0 {
			return
		}
		least = min(least, r.shots[at].snap.ID)
		if at == i {
			break
		}
	}
	if at == i && least == x.snap.ID {
		x.wrong = []int{api.FCycle}
		x.parent = 0
	}
}

// taken tells which sectors' bits will be 1.
func (r *reading) taken() []bool {
	taken := make([]bool, r.n)
	for at := range r.data {
		taken[at] = true
	}
	for _, x := range r.held {
		for i := range (x.entry.Length + 63) / 64 {
			if x.good || x.kept {
				taken[x.entry.Start+i] = true
			}
		}
	}
	return taken
}

// degrees is the counts as they will be.
func (r *reading) degrees() []uint32 {
	var l []uint32
	for _, x := range r.held {
		l = append(l, x.degree)
	}
	return l
}
