// Package links: which of some blobs name which others, by their descriptors alone.
//
// graph asks it of a store's good entries. It stands by itself since no disk can hold a ring of good documents (that takes bytes that tell their own SHA-256), and yet rings are promised and have to be tried.
package links

import (
	"bytes"
	"iter"
	"slices"

	"assay/api"
)

// Blob is what a slot has.
type Blob struct {
	There bool
	Self  api.Desc   // the descriptor that meets it; no two that are there have one key
	Names []api.Desc // whom it names, in order
}

// Links is who names whom.
type Links struct {
	blobs   []Blob             // by slot; the zero one, where none is there
	slots   map[api.Digest]int // of those that are there, by their keys
	degrees []int              // by slot
}

// Of is the links of these blobs; each one's slot is its place in the list.
func Of(blobs []Blob) *Links {
	l := &Links{blobs: make([]Blob, len(blobs)), slots: map[api.Digest]int{}, degrees: make([]int, len(blobs))}
	for slot, b := range blobs {
		if b.There {
			l.blobs[slot] = Blob{There: true, Self: b.Self, Names: slices.Clone(b.Names)}
			l.slots[b.Self.Key] = slot
		}
	}
	// Behind all of them: a document may name what a higher slot has.
	for slot := range l.blobs {
		for _, at := range l.met(slot) {
			l.degrees[at]++
		}
	}
	return l
}

// Names is whom a slot's blob names.
func (l *Links) Names(slot int) []api.Desc { return slices.Clone(l.at(slot).Names) }

// Meets is the slot of the blob that a descriptor meets.
func (l *Links) Meets(d api.Desc) (int, bool) {
	slot, ok := l.find(d.Key)
	if !ok || l.at(slot).Self != d {
		return 0, false
	}
	return slot, true
}

// Whole tells whether a slot's blob is there, with all that is reached from it.
func (l *Links) Whole(slot int) bool {
	for d := range l.named(l.Reached(slot)) {
		if _, ok := l.Meets(d); !ok {
			return false
		}
	}
	return l.at(slot).There
}

// Degree is how many descriptors meet a slot's blob.
func (l *Links) Degree(slot int) int {
	if !l.at(slot).There {
		return 0
	}
	return l.degrees[slot]
}

// Reached is the slots that are reached from some, rising.
func (l *Links) Reached(slots ...int) []int {
	var reached, work []int
	unseen := l.all()
	see := func(slot int) {
		if _, left := unseen[slot]; left {
			delete(unseen, slot)
			work = append(work, slot)
		}
	}
	for _, slot := range slots {
		see(slot)
	}
	for len(work) > 0 {
		last := len(work) - 1
		slot := work[last]
		work = work[:last]
		reached = append(reached, slot)
		for _, at := range l.met(slot) {
			see(at)
		}
	}
	slices.Sort(reached)
	return reached
}

// Missing is the keys that what is reached from some slots names and that nobody has, rising.
func (l *Links) Missing(slots ...int) []api.Digest {
	var missing []api.Digest
	for d := range l.named(l.Reached(slots...)) {
		if _, ok := l.find(d.Key); !ok {
			missing = append(missing, d.Key)
		}
	}
	slices.SortFunc(missing, func(a, b api.Digest) int { return bytes.Compare(a[:], b[:]) })
	return slices.Compact(missing)
}

// at is what a slot has; the zero blob, if there is no such slot.
func (l *Links) at(slot int) Blob {
	if l == nil || slot < 0 || slot >= len(l.blobs) {
		return Blob{}
	}
	return l.blobs[slot]
}

// find is the slot of the blob with a key.
func (l *Links) find(key api.Digest) (int, bool) {
	if l == nil {
		return 0, false
	}
	slot, ok := l.slots[key]
	return slot, ok
}

// all is the slots whose blobs are there.
func (l *Links) all() map[int]struct{} {
	slots := map[int]struct{}{}
	if l == nil {
		return slots
	}
	for slot, b := range l.blobs {
		if b.There {
			slots[slot] = struct{}{}
		}
	}
	return slots
}

// named is the descriptors of these slots' blobs.
func (l *Links) named(slots []int) iter.Seq[api.Desc] {
	return func(yield func(api.Desc) bool) {
		for _, slot := range slots {
			for _, d := range l.at(slot).Names {
				if !yield(d) {
					return
				}
			}
		}
	}
}

// met is the slots that a slot's descriptors meet, as often as they do.
func (l *Links) met(slot int) []int {
	var slots []int
	for _, d := range l.at(slot).Names {
		if at, ok := l.Meets(d); ok {
			slots = append(slots, at)
		}
	}
	return slots
}
