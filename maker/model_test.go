package maker_test

import (
	"crypto/sha256"
	"regexp"
	"slices"

	"assay/api"
	"assay/manifest"
)

// keyOf is the key of some bytes.
func keyOf(b string) api.Digest { return sha256.Sum256([]byte(b)) }

// blob is one that was put, at the slot that is its place in the list.
type blob struct {
	bytes string
	start int
}

// model is the chapter's words once more. Of the program it asks only whom a document names.
type model struct {
	places
	blobs []blob
	pins  []api.Tag
	shots []api.Snap
}

// find is the slot of a key's blob, or -1.
func (w *model) find(key api.Digest) int {
	return slices.IndexFunc(w.blobs, func(b blob) bool { return keyOf(b.bytes) == key })
}

// taken is what each sector's bit is.
func (w *model) taken() []bool {
	l := make([]bool, w.n)
	for at := range w.data {
		l[at] = true
	}
	for _, b := range w.blobs {
		for i := range b.bytes {
			l[b.start+i/64] = true
		}
	}
	return l
}

// row is the first of the lowest n free sectors in a row.
func (w *model) row(n int) (int, bool) {
	if n == 0 {
		return 0, true
	}
	taken := w.taken()
	for at := 0; at+n <= w.n; at++ {
		if !slices.Contains(taken[at:at+n], true) {
			return at, true
		}
	}
	return 0, false
}

// put: P29.2.
func (w *model) put(l ...string) ([]api.Digest, api.Errno) {
	next := *w
	next.blobs = slices.Clone(w.blobs)
	var keys []api.Digest
	for _, b := range l {
		if len(b) > 4096 {
			return nil, api.ErrLong
		}
		keys = append(keys, keyOf(b))
		if next.find(keyOf(b)) >= 0 {
			continue
		}
		start, ok := next.row((len(b) + 63) / 64)
		if !ok || len(next.blobs) >= w.slots {
			return nil, api.ErrFull
		}
		next.blobs = append(next.blobs, blob{b, start})
	}
	*w = next
	return keys, api.OK
}

// nameForm is the form of a name of any length.
var nameForm = regexp.MustCompile(`\A[A-Za-z0-9_][A-Za-z0-9_.-]*\z`)

// pin: P29.3.
func (w *model) pin(name string, key api.Digest) api.Errno {
	switch {
	case len(name) > 24 || !nameForm.MatchString(name):
		return api.ErrName
	case slices.ContainsFunc(w.pins, func(t api.Tag) bool { return t.Name == name }):
		return api.ErrTwice
	case !w.whole(key, map[api.Digest]bool{}):
		return api.ErrEmpty
	case len(w.pins) >= w.tags:
		return api.ErrFull
	}
	w.pins = append(w.pins, api.Tag{Name: name, Key: key})
	return api.OK
}

// met is the slots that a slot's descriptors meet, and whether all of them meet.
func (w *model) met(slot int) ([]int, bool) {
	var slots []int
	_, named := manifest.Read([]byte(w.blobs[slot].bytes))
	for _, d := range named {
		if at := w.find(d.Key); at >= 0 && len(w.blobs[at].bytes) == d.Size {
			slots = append(slots, at)
		}
	}
	return slots, len(slots) == len(named)
}

// whole tells whether the closure of a key is there.
func (w *model) whole(key api.Digest, seen map[api.Digest]bool) bool {
	if seen[key] {
		return true
	}
	seen[key] = true
	slot := w.find(key)
	if slot < 0 {
		return false
	}
	slots, all := w.met(slot)
	for _, at := range slots {
		all = all && w.whole(keyOf(w.blobs[at].bytes), seen)
	}
	return all
}

// has tells whether there is a snapshot of an id.
func (w *model) has(id uint32) bool {
	return slices.ContainsFunc(w.shots, func(s api.Snap) bool { return s.ID == id })
}

// shoot: P29.4.
func (w *model) shoot(s api.Snap) api.Errno {
	switch {
	case s.ID == 0:
		return api.ErrArg
	case w.has(s.ID):
		return api.ErrTwice
	case w.find(s.Layer) < 0:
		return api.ErrEmpty
	case s.Parent != 0 && !w.has(s.Parent):
		return api.ErrEmpty
	case len(w.shots) >= w.snaps:
		return api.ErrFull
	}
	w.shots = append(w.shots, s)
	return api.OK
}

// counts is the in-degrees.
func (w *model) counts() []uint32 {
	l := make([]uint32, w.slots)
	for slot := range w.blobs {
		slots, _ := w.met(slot)
		for _, at := range slots {
			l[at]++
		}
	}
	return l
}

// sectors: P29.5.
func (w *model) sectors() []api.Sector {
	l := make([]api.Sector, w.n)
	l[0], l[1] = superOf(w.n), superOf(w.n)
	copy(l[w.bitmap:], bitmapOf(w.taken()))
	for slot, b := range w.blobs {
		l[w.dir+slot] = entryOf(b.start, len(b.bytes), keyOf(b.bytes))
		for i := range b.bytes {
			l[b.start+i/64][i%64] = b.bytes[i]
		}
	}
	for slot, tag := range w.pins {
		l[w.tag+slot] = tagOf(tag)
	}
	for slot, snap := range w.shots {
		l[w.snap+slot] = snapOf(snap)
	}
	copy(l[w.count:], countsOf(w.counts()))
	return l
}
