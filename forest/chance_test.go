package forest_test

import (
	"math"
	"math/rand"
	"testing"

	"assay/api"
	"assay/forest"
)

// each goes through all lists of n of these rows.
func each(kinds []forest.Row, n int, see func(l []forest.Row)) {
	l := make([]forest.Row, n)
	var fill func(i int)
	fill = func(i int) {
		if i == n {
			see(l)
			return
		}
		for _, r := range kinds {
			l[i] = r
			fill(i + 1)
		}
	}
	fill(0)
}

// kinds is all rows with such ids and parents; with all four of There and Layer, or with both true.
func kinds(ids, parents []uint32, torn bool) []forest.Row {
	var l []forest.Row
	for _, id := range ids {
		for _, parent := range parents {
			l = append(l, forest.Row{There: true, Layer: true, Snap: api.Snap{ID: id, Parent: parent}})
			if torn {
				l = append(l, forest.Row{There: true, Snap: api.Snap{ID: id, Parent: parent}}, forest.Row{Layer: true, Snap: api.Snap{ID: id, Parent: parent}}, forest.Row{Snap: api.Snap{ID: id, Parent: parent}})
			}
		}
	}
	return l
}

// All short lists of rows of any kind.
func TestAllShortLists(t *testing.T) {
	some := kinds([]uint32{0, 1, 2}, []uint32{0, 1, 2, math.MaxUint32}, true)
	for n := range 4 {
		each(some, n, func(l []forest.Row) { check(t, l) })
	}
}

// All lists of four rows that are there with their layers.
func TestAllListsOfFour(t *testing.T) {
	each(kinds([]uint32{1, 2, 3, 4}, []uint32{0, 1, 2, 3, 4}, false), 4, func(l []forest.Row) { check(t, l) })
}

// All ways in which five may have parents (6 is nobody), with their ids in some orders of slots.
func TestAllParentsOfFive(t *testing.T) {
	for _, ids := range [][]uint32{{1, 2, 3, 4, 5}, {5, 4, 3, 2, 1}, {4, 1, 5, 2, 3}, {2, 5, 1, 3, 4}, {3, 4, 2, 5, 1}} {
		l := make([]api.Snap, 5)
		var fill func(i int)
		fill = func(i int) {
			if i == len(l) {
				check(t, standing(l))
				return
			}
			for parent := range uint32(7) {
				l[i] = api.Snap{ID: ids[i], Parent: parent}
				fill(i + 1)
			}
		}
		fill(0)
	}
}

// byChance is n rows with ids and parents up to a greatest; of some, one in bad is not there, has no layer, or has the id 0.
func byChance(r *rand.Rand, n, greatest, bad int) []forest.Row {
	l := make([]forest.Row, n)
	for i := range l {
		l[i] = forest.Row{There: r.Intn(bad) > 0, Layer: r.Intn(bad) > 0, Snap: api.Snap{ID: uint32(1 + r.Intn(greatest)), Parent: uint32(r.Intn(greatest + 1))}}
		r.Read(l[i].Snap.Layer[:])
		if r.Intn(bad) == 0 {
			l[i].Snap.ID = 0
		}
		if r.Intn(8) == 0 {
			l[i].Snap.Parent = 0
		}
	}
	return l
}

// Rows by chance, few and many, from ids that stand often to ids that hardly stand twice.
func TestRowsByChance(t *testing.T) {
	r := rand.New(rand.NewSource(6))
	for range 4000 {
		n := r.Intn(66)
		check(t, byChance(r, n, 1+r.Intn(3*n+2), 2+r.Intn(40)))
	}
	for range 20 {
		check(t, byChance(r, 300, 400, 50))
	}
}

// Each id once, and parents by chance: cycles with trees about them.
func TestParentsByChance(t *testing.T) {
	r := rand.New(rand.NewSource(7))
	for range 3000 {
		n := 1 + r.Intn(64)
		l := make([]api.Snap, n)
		for i, k := range r.Perm(n) {
			l[i] = api.Snap{ID: uint32(k+1) * 3, Parent: uint32(1+r.Intn(n)) * 3}
			if r.Intn(2*n) == 0 {
				l[i].Parent = uint32(r.Intn(2)) // no parent, or nobody's
			}
		}
		check(t, standing(l))
	}
}

// Forests by chance, in any order of slots: Is says so, and Of finds nothing; and with one fault at any place it does not.
func TestForestsByChance(t *testing.T) {
	r := rand.New(rand.NewSource(8))
	for range 1000 {
		n := 1 + r.Intn(64)
		ids := r.Perm(n)
		l := make([]api.Snap, n)
		for i, k := range ids {
			l[i].ID = uint32(k) + 1
			if i > 0 && r.Intn(5) > 0 {
				l[i].Parent = uint32(ids[r.Intn(i)]) + 1
			}
		}
		l = mixed(r, l)
		if !checkIs(t, l) {
			t.Fatalf("Is(%v) is false", l)
		}
		at := r.Intn(n)
		for _, wrong := range []api.Snap{{ID: 0}, {ID: l[at].ID, Parent: l[at].ID}, {ID: l[at].ID, Parent: uint32(n) + 1}, {ID: l[(at+1)%n].ID}} {
			if n == 1 && wrong == l[at] {
				continue
			}
			was := l[at]
			l[at] = wrong
			if checkIs(t, l) {
				t.Fatalf("Is(%v) is true", l)
			}
			check(t, standing(l))
			l[at] = was
		}
	}
}
