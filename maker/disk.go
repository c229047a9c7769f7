package maker

import (
	"slices"

	"assay/api"
	"assay/image"
	"assay/mend"
	"assay/sha"
	"assay/slot"
	"assay/table"
)

// draft is the same store, to which blobs can be put without this one's seeing it.
func (m *Maker) draft() Maker {
	d := *m
	d.entries = slices.Clone(m.entries)
	d.sectors = slices.Clone(m.sectors)
	d.free = m.free.Copy()
	return d
}

// put puts one blob, if it isn't there yet: its digest.
func (m *Maker) put(b []byte) (api.Digest, api.Errno) {
	if len(b) > api.MaxBlob {
		return api.Digest{}, api.ErrLong
	}
	e := api.Entry{State: api.Live, Length: len(b), Key: sha.Sum(b)}
	if m.has(e.Key) {
		return e.Key, api.OK
	}
	if len(m.entries) == m.geom.Slots {
		return api.Digest{}, api.ErrFull
	}
	start, ok := m.seat(slot.Sectors(e))
	if !ok {
		return api.Digest{}, api.ErrFull
	}
	e.Start = start
	m.entries = append(m.entries, e)
	m.fill(start, b)
	return e.Key, api.OK
}

// seat takes the lowest n free data sectors in a row: the first of them, and 0 where n is 0.
func (m *Maker) seat(n int) (int, bool) {
	if n == 0 {
		return 0, true
	}
	start, ok := m.free.Lowest(n)
	return start, ok && m.free.Take(start, n)
}

// fill writes bytes from a sector on. What is free is zeros, so the rest of the last one is.
func (m *Maker) fill(at int, b []byte) {
	for part := range slices.Chunk(b, api.SectorSize) {
		copy(m.sectors[at][:], part)
		at++
	}
}

// mended is the store as mend has it. It is read of the data and the three tables of slots alone: all else of the head follows from these.
func (m *Maker) mended() *mend.Mended {
	l := slices.Clone(m.sectors)
	list(l[m.geom.Dir:], m.entries, func(e api.Entry) (api.Sector, api.Errno) { return slot.Put(e, m.geom.N) })
	list(l[m.geom.Tag:], m.tags, table.PutTag)
	list(l[m.geom.Snap:], m.snaps, table.PutSnap)
	im, _ := image.Of(l)
	return mend.Of(im)
}

// list lays things as a table's first slots, a sector each. No put refuses them: what is no entry, tag or snapshot isn't here.
func list[T any](l []api.Sector, things []T, put func(T) (api.Sector, api.Errno)) {
	for i, thing := range things {
		l[i], _ = put(thing)
	}
}
