package fetch_test

import (
	"crypto/sha256"
	"slices"

	"assay/api"
	"assay/image"
	"assay/manifest"
	"assay/slot"
	"assay/table"
)

// reading is a disk read once more, by DOC.md's words alone: each question is asked of all slots anew, and digests are compared as texts.
type reading struct {
	im    *image.Image
	slots []held
}

// held is what a slot of the directory has.
type held struct {
	entry api.Entry
	good  bool
	whole bool
	names []api.Desc
	met   []int // whom these meet
}

// read is the reading of an image.
func read(im *image.Image) *reading {
	r := &reading{im: im, slots: make([]held, im.N()/8)}
	for i := range r.slots {
		r.slots[i] = r.at(i)
	}
	for i, x := range r.slots {
		for _, d := range x.names {
			if at := r.meets(d); at >= 0 {
				r.slots[i].met = append(r.slots[i].met, at)
			}
		}
	}
	r.strike()
	return r
}

// at is what a slot has; all lower ones have been read.
func (r *reading) at(i int) held {
	e, kind := r.im.Entry(i)
	b := r.im.Bytes(e)
	good := kind == slot.Right && e.State == api.Live && sha256.Sum256(b) == e.Key
	for _, low := range r.slots[:i] {
		if low.good && (low.entry.Key == e.Key || over(low.entry, e)) {
			good = false
		}
	}
	if !good {
		return held{}
	}
	_, names := manifest.Read(b)
	return held{entry: e, good: true, whole: true, names: names}
}

// over tells whether two entries have a sector in common.
func over(a, b api.Entry) bool {
	for x := a.Start; x < a.Start+(a.Length+63)/64; x++ {
		if x >= b.Start && x < b.Start+(b.Length+63)/64 {
			return true
		}
	}
	return false
}

// find is the slot of the good entry with a key, or -1.
func (r *reading) find(key api.Digest) int {
	return slices.IndexFunc(r.slots, func(x held) bool { return x.good && x.entry.Key == key })
}

// meets is the slot that a descriptor meets, or -1.
func (r *reading) meets(d api.Desc) int {
	return slices.IndexFunc(r.slots, func(x held) bool { return x.good && x.entry.Key == d.Key && x.entry.Length == d.Size })
}

// strike tells whose closure is there: whoever names somebody whose closure isn't there is struck out, till nobody is.
func (r *reading) strike() {
	lacks := func(d api.Desc) bool {
		at := r.meets(d)
		return at < 0 || !r.slots[at].whole
	}
	for struck := true; struck; {
		struck = false
		for i := range r.slots {
			if r.slots[i].whole && slices.ContainsFunc(r.slots[i].names, lacks) {
				r.slots[i].whole, struck = false, true
			}
		}
	}
}

// tags is the tags that are not torn, by their slots.
func (r *reading) tags() map[int]api.Tag {
	tags := map[int]api.Tag{}
	for at := range r.im.N() / 16 {
		if tag, kind := r.im.Tag(at); kind == table.Right {
			tags[at] = tag
		}
	}
	return tags
}

// names is the names that stand in them, each once.
func (r *reading) names() []string {
	var l []string
	for _, tag := range r.tags() {
		if !slices.Contains(l, tag.Name) {
			l = append(l, tag.Name)
		}
	}
	slices.Sort(l)
	return l
}

// reached tells which slots are reached from a key's good entry: in rounds, each of which takes in whom those within name and meet, till one takes in nobody.
func (r *reading) reached(key api.Digest) []bool {
	within := make([]bool, len(r.slots))
	if at := r.find(key); at >= 0 {
		within[at] = true
	}
	for more := true; more; {
		more = false
		for i, x := range r.slots {
			for _, at := range x.met {
				if within[i] && !within[at] {
					within[at], more = true, true
				}
			}
		}
	}
	return within
}

// lacked is what is to be got for one key.
func (r *reading) lacked(key api.Digest) []api.Digest {
	var l []api.Digest
	for i, is := range r.reached(key) {
		for _, d := range r.slots[i].names {
			if is && r.find(d.Key) < 0 {
				l = append(l, d.Key)
			}
		}
	}
	return together(l)
}

// plan is what is to be got for the tags that are asked for.
func (r *reading) plan(asked func(tag api.Tag) bool) []api.Digest {
	var lists [][]api.Digest
	for _, tag := range r.tags() {
		if asked(tag) {
			lists = append(lists, r.lacked(tag.Key))
		}
	}
	return together(lists...)
}

// together is several lists put together: rising, each once.
func together(lists ...[]api.Digest) []api.Digest {
	texts := map[string]api.Digest{}
	for _, l := range lists {
		for _, key := range l {
			texts[string(key[:])] = key
		}
	}
	var order []string
	for text := range texts {
		order = append(order, text)
	}
	slices.Sort(order)
	var l []api.Digest
	for _, text := range order {
		l = append(l, texts[text])
	}
	return l
}
