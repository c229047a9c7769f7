package graph_test

import (
	"fmt"
	"math/rand"
	"slices"
	"testing"

	"assay/api"
	"assay/store"
)

// anyOf is one of a list.
func anyOf[T any](r *rand.Rand, l []T) T { return l[r.Intn(len(l))] }

// byChance is a disk whose slots are laid in any order, documents among them that name what was laid ahead of them, rightly and not. Some slots are spoiled behind that.
func byChance(r *rand.Rand, n int) *disk {
	d := empty(n)
	laid := []api.Desc{nowhere(0), nowhere(1), {}}
	spoil := r.Intn(4)
	for i, slot := range r.Perm(slotsOf(n)) {
		b := anyBytes(r, d, laid, i)
		if len(b) > d.room() {
			continue
		}
		x := d.blob(slot, b)
		laid = append(laid, x)
		if r.Intn(9) >= spoil {
			continue
		}
		switch r.Intn(4) {
		case 0:
			d.tear(slot)
		case 1:
			d.l[d.dir()+slot] = api.Sector{}
		case 2:
			d.put(slot, api.Quarantined, "", x.Key)
		case 3:
			d.put(slot, api.Live, "", x.Key)
		}
	}
	return d
}

// anyBytes is the bytes of a blob: plain ones, a document's, or nearly a document's.
func anyBytes(r *rand.Rand, d *disk, laid []api.Desc, i int) string {
	many := min(r.Intn(6), d.room()/160)
	if r.Intn(10) == 0 {
		many = min(32, d.room()/160)
	}
	if many == 0 || r.Intn(4) == 0 {
		return anyOf(r, []string{"", "abc", fmt.Sprint("blob", i), text(api.Index)})
	}
	var named []api.Desc
	for range many {
		x := laid[max(0, len(laid)-1-r.Intn(12))]
		if r.Intn(12) == 0 {
			x.Size += 1 - r.Intn(2)*min(2, x.Size)
		}
		named = append(named, x)
	}
	return text(anyOf(r, []int{api.Manifest, api.Index}), named...) + anyOf(r, []string{"", "", "", " ", "\n\n", "}"})
}

// P20.1 to P20.7: disks by chance, of every size.
func TestByChance(t *testing.T) {
	r := rand.New(rand.NewSource(20))
	seen := map[string]int{}
	for range 12 {
		for _, n := range sizes() {
			d := byChance(r, n)
			g := check(t, d.l)
			s := storeOf(t, d.l)
			for slot := range s.Slots() {
				seen[fmt.Sprint("state ", s.State(slot))]++
				seen[fmt.Sprint("kind ", g.Kind(slot))]++
				if s.State(slot) == store.Good {
					seen[fmt.Sprint("whole ", g.Whole(slot))]++
					seen[fmt.Sprint("degree ", min(g.Degree(slot), 3))]++
					seen[fmt.Sprint("missing ", min(len(g.Missing(slot)), 2))]++
				}
			}
		}
	}
	for _, what := range []string{"state 0", "state 1", "state 2", "state 3", "kind 0", "kind 1", "kind 2", "whole true", "whole false", "degree 0", "degree 1", "degree 2", "degree 3", "missing 0", "missing 1", "missing 2"} {
		if seen[what] < 30 {
			t.Errorf("%s was seen too seldom to tell: %v", what, seen)
		}
	}
}

// P20.1 to P20.7: disks by chance with a committed mark, whose batch changes slots and bytes.
func TestByChanceBehindTheReplay(t *testing.T) {
	r := rand.New(rand.NewSource(21))
	for range 6 {
		for _, n := range sizes() {
			d, other := byChance(r, n), byChance(r, n)
			first := d.dir() + slotsOf(n)
			var targets []int
			for range 1 + r.Intn(8) {
				targets = append(targets, anyOf(r, []int{d.dir() + r.Intn(slotsOf(n)), first + r.Intn(n-first)}))
			}
			targets = each(targets)
			was := slices.Clone(d.l)
			for i, at := range targets {
				d.l[3+i] = other.l[at]
				was[at] = other.l[at]
			}
			d.commit(targets...)
			g := check(t, d.l)
			// What is told is what would be told of the disk, were it replayed.
			all := reading(storeOf(t, was))
			checkSlots(t, g, all)
			checkMeets(t, g, all)
		}
	}
}

// P20.6, P20.7: lists of slots by chance, long ones too.
func TestListsByChance(t *testing.T) {
	r := rand.New(rand.NewSource(22))
	for range 20 {
		d := byChance(r, anyOf(r, sizes()))
		s := storeOf(t, d.l)
		g, all := check(t, d.l), reading(s)
		for range 30 {
			var lists [2][]int
			for i := range lists {
				for range r.Intn(1 + r.Intn(300)) {
					lists[i] = append(lists[i], r.Intn(s.Slots()+20)-10)
				}
				checkList(t, g, all, lists[i]...)
			}
			both := g.Reached(slices.Concat(lists[0], lists[1])...)
			if want := each(slices.Concat(g.Reached(lists[0]...), g.Reached(lists[1]...))); !slices.Equal(both, want) {
				t.Fatalf("%v: %v, want %v", lists, both, want)
			}
			if again := g.Reached(both...); !slices.Equal(again, both) {
				t.Fatalf("%v: %v, and from these %v", lists, both, again)
			}
		}
	}
}
