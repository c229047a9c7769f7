package forest_test

import (
	"fmt"
	"math/rand"
	"slices"
	"testing"

	"assay/api"
	"assay/forest"
)

// ring is snapshots with these ids, each the next one's child, the last one the first one's.
func ring(ids ...uint32) []api.Snap {
	var l []api.Snap
	for i, id := range ids {
		l = append(l, api.Snap{ID: id, Parent: ids[(i+1)%len(ids)]})
	}
	return l
}

// rising is n ids from one on.
func rising(from uint32, n int) []uint32 {
	l := make([]uint32, n)
	for i := range l {
		l[i] = from + uint32(i)
	}
	return l
}

// mixed is snapshots in another order of slots.
func mixed(r *rand.Rand, l []api.Snap) []api.Snap {
	m := slices.Clone(l)
	r.Shuffle(len(m), func(i, k int) { m[i], m[k] = m[k], m[i] })
	return m
}

// slotOf is where an id stands.
func slotOf(l []api.Snap, id uint32) int {
	return slices.IndexFunc(l, func(s api.Snap) bool { return s.ID == id })
}

// parents is the parents of snapshots, but with none at some slots.
func parents(l []api.Snap, cut ...int) []uint32 {
	var ids []uint32
	for _, s := range l {
		ids = append(ids, s.Parent)
	}
	for _, slot := range cut {
		ids[slot] = 0
	}
	return ids
}

// checkCut holds that all of these are kept, and that just those with such ids, which are least of their cycles, have lost their parents.
func checkCut(t *testing.T, l []api.Snap, ids ...uint32) {
	t.Helper()
	var cut []int
	for _, id := range ids {
		cut = append(cut, slotOf(l, id))
	}
	slices.Sort(cut)
	want := forest.Forest{Kept: slices.Repeat([]bool{true}, len(l)), Parent: parents(l, cut...), Cycles: cut}
	f := forest.Of(standing(l))
	if !same(f, want) {
		t.Fatalf("of %d snapshots, cut where %v stand: %v, %v, %v", len(l), ids, f.Twice, f.NoParent, f.Cycles)
	}
	if forest.Is(l) != (len(ids) == 0) || !forest.Is(left(standing(l), f)) {
		t.Fatalf("of %d snapshots, cut where %v stand: Is", len(l), ids)
	}
}

// Cycles of one to many, with the least id at each slot, and the parents going up, down or about.
func TestRings(t *testing.T) {
	r := rand.New(rand.NewSource(1))
	for n := 1; n <= 40; n++ {
		for least := range n {
			ids := rising(10, n)
			ids[0], ids[least] = ids[least], ids[0]
			l := ring(ids...)
			check(t, standing(l))
			checkCut(t, l, 10)
			slices.Reverse(l)
			checkCut(t, l, 10)
			l = mixed(r, l)
			check(t, standing(l))
			checkCut(t, l, 10)
		}
	}
}

// The least one is the least as a number without a sign, and of all of its bits.
func TestLeastIDs(t *testing.T) {
	checkCut(t, ring(0x80000000, 0x7fffffff), 0x7fffffff)
	checkCut(t, ring(0xffffffff, 1), 1)
	checkCut(t, ring(0x100, 0xff, 0x1000000), 0xff)
	checkCut(t, ring(0x10001, 0x20000, 0x10002), 0x10001)
	checkCut(t, ring(0xffffffff, 0xfffffffe, 0xfffffffd), 0xfffffffd)
	checkCut(t, ring(0xffffffff), 0xffffffff)
}

// Several cycles at once, in any order of slots: one parent of each goes.
func TestSeveralRings(t *testing.T) {
	r := rand.New(rand.NewSource(2))
	l := slices.Concat(ring(50), ring(41, 40), ring(33, 31, 32), ring(60, 61, 62, 63, 64), ring(20), ring(13, 11))
	for range 500 {
		l = mixed(r, l)
		check(t, standing(l))
		checkCut(t, l, 50, 40, 31, 60, 20, 11)
	}
	// Met in one order, told in the other.
	checkCut(t, slices.Concat(ring(8, 9)[1:], ring(6, 7)[1:], ring(6, 7)[:1], ring(8, 9)[:1]), 6, 8)
}

// P21.4: trees that lead into a cycle from outside stay, though their ids are lower than the cycle's least.
func TestTreesIntoRings(t *testing.T) {
	r := rand.New(rand.NewSource(3))
	in := []api.Snap{{ID: 1, Parent: 31}, {ID: 2, Parent: 1}, {ID: 3, Parent: 1}, {ID: 4, Parent: 30}, {ID: 99, Parent: 4}, {ID: 98, Parent: 32}, {ID: 5, Parent: 20}, {ID: 6, Parent: 5}, {ID: 97, Parent: 6}}
	l := slices.Concat(ring(32, 31, 30), ring(20), in, []api.Snap{{ID: 70}, {ID: 71, Parent: 70}, {ID: 7, Parent: 71}})
	for range 1000 {
		l = mixed(r, l)
		check(t, standing(l))
		checkCut(t, l, 30, 20)
	}
	checkCut(t, slices.Concat(in[:5], ring(31, 32, 30), in[5:6]), 30)
}

// chain is n snapshots, each the child of the one ahead of it, the first of an id.
func chain(n int, end uint32) []api.Snap {
	var l []api.Snap
	for i := range uint32(n) {
		l = append(l, api.Snap{ID: i + 100, Parent: i + 99})
	}
	l[0].Parent = end
	return l
}

// orders is snapshots with their slots in rising, falling and mixed order.
func orders(l []api.Snap) [][]api.Snap {
	falling := slices.Clone(l)
	slices.Reverse(falling)
	return [][]api.Snap{l, falling, mixed(rand.New(rand.NewSource(4)), l)}
}

// Long chains that lead to an end, to a parent that isn't there, and into a cycle. (So long that to follow each of them from each slot would take hours.)
func TestLongChains(t *testing.T) {
	for _, n := range []int{2, 3, 100, 300000} {
		for _, l := range orders(chain(n, 0)) {
			checkCut(t, l)
		}
		for _, l := range orders(chain(n, 7)) {
			f := forest.Of(standing(l))
			at := slotOf(l, 100)
			want := forest.Forest{Kept: slices.Repeat([]bool{true}, n), Parent: parents(l, at), NoParent: []int{at}}
			if !same(f, want) || forest.Is(l) || !forest.Is(left(standing(l), f)) {
				t.Fatalf("%d to a parent that isn't there: %v, %v", n, f.NoParent, f.Cycles)
			}
		}
		for _, l := range orders(slices.Concat(chain(n, 22), ring(21, 23, 22))) {
			checkCut(t, l, 21)
		}
		for _, l := range orders(chain(n, uint32(n)+99)) {
			checkCut(t, l, 100)
		}
	}
}

// Many chains into one cycle, and many cycles.
func TestManyRows(t *testing.T) {
	var broom, rings []api.Snap
	var first []uint32
	for i := range uint32(100000) {
		broom = append(broom, api.Snap{ID: i + 10, Parent: 5 + i%2})
		rings = append(rings, ring(3*i+1, 3*i+3, 3*i+2)...)
		first = append(first, 3*i+1)
	}
	for _, l := range orders(slices.Concat(broom, ring(5, 6))) {
		checkCut(t, l, 5)
	}
	checkCut(t, rings[:len(rings)/100], first[:len(first)/100]...)
	f := forest.Of(standing(mixed(rand.New(rand.NewSource(5)), rings)))
	if len(f.Cycles) != len(first) || !rises(f.Cycles, len(rings)) || slices.Contains(f.Kept, false) {
		t.Errorf("%d cycles", len(f.Cycles))
	}
}

// A cycle that is broken by what isn't kept is none: each of its rows taken away in each way.
func TestBrokenRings(t *testing.T) {
	l := standing(slices.Concat(ring(14, 13, 12, 11), []api.Snap{{ID: 3, Parent: 12}}))
	for slot := range 4 {
		child := slotOf(all(l), []uint32{11, 14, 13, 12}[slot])
		for _, gone := range []forest.Row{{}, {There: true, Snap: l[slot].Snap}, {Layer: true, Snap: l[slot].Snap}, {Snap: l[slot].Snap}, {There: true, Layer: true, Snap: api.Snap{Parent: 11}}, {There: true, Layer: true, Snap: api.Snap{ID: 77}}} {
			m := slices.Clone(l)
			m[slot] = gone
			t.Run(fmt.Sprint(slot, gone.There, gone.Layer, gone.Snap.ID), func(t *testing.T) {
				f := check(t, m)
				if len(f.Cycles) > 0 || !slices.Contains(f.NoParent, child) || f.Parent[child] != 0 {
					t.Errorf("%+v", f)
				}
			})
		}
	}
}
