package lay

import (
	"iter"
	"slices"

	"assay/api"
	"assay/bits"
	"assay/geom"
	"assay/mend"
	"assay/slot"
	"assay/super"
	"assay/table"
)

// countsEach is how many counts of four bytes a sector holds ahead of its sum.
const countsEach = (api.SectorSize - 4) / 4

// head goes through the head's sectors with their places. A sector is made only when it is come to, so that whoever leaves early waits for no more than was seen.
func head(m *mend.Mended) iter.Seq2[int, api.Sector] {
	return func(yield func(int, api.Sector) bool) {
		at := 0
		for _, part := range parts(m) {
			for s := range part {
				if !yield(at, s) {
					return
				}
				at++
			}
		}
	}
}

// parts is what the head is made of, one behind the other in the order of the places; nothing of no store.
func parts(m *mend.Mended) []iter.Seq[api.Sector] {
	if m == nil {
		return nil
	}
	im := m.Image()
	g := im.Geom()
	return []iter.Seq[api.Sector]{
		each(geom.Mark-geom.Super, func(int) api.Sector { return good(super.Put(g.N)) }),
		each(geom.Journal-geom.Mark, func(int) api.Sector { return api.Sector{} }),
		each(g.Bitmap-geom.Journal, func(i int) api.Sector { return im.Sector(geom.Journal + i) }),
		bitmap(m, g.N),
		slots(g.Slots, m.Entry, func(e api.Entry) (api.Sector, api.Errno) { return slot.Put(e, g.N) }),
		slots(g.Tags, m.Tag, table.PutTag),
		slots(g.Snaps, m.Snap, table.PutSnap),
		each(g.Counts, func(i int) api.Sector { return good(table.PutCounts(counts(m, i))) }),
	}
}

// each is n sectors, made by a function from their numbers.
func each(n int, of func(i int) api.Sector) iter.Seq[api.Sector] {
	return func(yield func(api.Sector) bool) {
		for i := range n {
			if !yield(of(i)) {
				return
			}
		}
	}
}

// good is a sector without its error: what a store will have is right, so that every put takes it.
func good(s api.Sector, _ api.Errno) api.Sector { return s }

// slots is a table of n slots, a sector each: as they are put, and all zeros where the store has none.
func slots[T any](n int, get func(slot int) (T, bool), put func(T) (api.Sector, api.Errno)) iter.Seq[api.Sector] {
	return each(n, func(i int) api.Sector {
		thing, ok := get(i)
		if !ok {
			return api.Sector{}
		}
		return good(put(thing))
	})
}

// bitmap is the bits of n sectors: what will be taken.
func bitmap(m *mend.Mended, n int) iter.Seq[api.Sector] {
	return func(yield func(api.Sector) bool) {
		taken := make([]bool, n)
		for at := range taken {
			taken[at] = m.Taken(at)
		}
		slices.Values(bits.Put(taken))(yield)
	}
}

// counts is the counts of a sector of them; that of a slot that there isn't is 0.
func counts(m *mend.Mended, i int) []uint32 {
	l := make([]uint32, countsEach)
	for k := range l {
		l[k] = m.Count(i*countsEach + k)
	}
	return l
}
