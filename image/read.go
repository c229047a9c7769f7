package image

import (
	"slices"

	"assay/api"
	"assay/geom"
	"assay/table"
)

// What a sector holds ahead of its sum of four bytes.
const (
	bitsEach   = 8 * (api.SectorSize - 4)
	countsEach = (api.SectorSize - 4) / 4 // of four bytes each
)

// told is what a slot tells, and whether it is free, right or torn.
type told[T any] struct {
	thing T
	kind  int
}

// slots is what the first n sectors tell, a slot each.
func slots[T any](l []api.Sector, n int, get func(api.Sector) (T, int)) []told[T] {
	t := make([]told[T], n)
	for i := range n {
		t[i].thing, t[i].kind = get(l[i])
	}
	return t
}

// at is what a slot tells; zero values, if there is no such slot.
func at[T any](t []told[T], slot int) (T, int) {
	if slot < 0 || slot >= len(t) {
		var none T
		return none, 0
	}
	return t[slot].thing, t[slot].kind
}

// spread is values that stand in sectors, so many in each; those of torn sectors are zero values.
type spread[T any] struct {
	all  []T
	each int
	torn []int // the numbers of the torn sectors, rising
}

// at is the value of a number, and true; the zero value and false, if it can't be read or there is none.
func (p spread[T]) at(i int) (T, bool) {
	if i < 0 || i >= len(p.all) || slices.Contains(p.torn, i/p.each) {
		var none T
		return none, false
	}
	return p.all[i], true
}

// counts is the directory's counts, of the sectors from their first one on.
func counts(l []api.Sector, g geom.Geom) spread[uint32] {
	p := spread[uint32]{all: make([]uint32, g.Slots), each: countsEach}
	for k := range g.Counts {
		own := p.all[k*countsEach : min((k+1)*countsEach, g.Slots)]
		read, whole := table.GetCounts(l[k], len(own))
		if !whole {
			p.torn = append(p.torn, k)
		}
		copy(own, read) // of a torn one none is read
	}
	return p
}
