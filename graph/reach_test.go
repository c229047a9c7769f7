package graph_test

import (
	"crypto/sha256"
	"fmt"
	"slices"
	"testing"

	"assay/api"
	"assay/graph"
)

// P20.2, P20.5, P20.6: documents that name nobody, one, several, 32, and one again and again; in their order.
func TestHowManyAreNamed(t *testing.T) {
	for _, kind := range []int{api.Manifest, api.Index} {
		for many := range 33 {
			if many == 0 && kind == api.Manifest {
				continue // a manifest has its config
			}
			d := empty(1024)
			var named, same, backward []api.Desc
			for i := range many {
				named = append(named, d.blob(10+i, fmt.Sprint("blob", i)))
				same = append(same, named[0])
			}
			backward = slices.Clone(named)
			slices.Reverse(backward)
			d.doc(0, kind, named...)
			d.blob(2, text(kind, backward...)+" ")
			if many > 1 {
				d.doc(1, kind, same...)
			}
			g := check(t, d.l)
			if g.Kind(0) != kind || !slices.Equal(g.Names(0), named) || !slices.Equal(g.Names(2), backward) || !g.Whole(0) {
				t.Fatalf("%d named: %v", many, g.Names(0))
			}
			if many > 1 && (!slices.Equal(g.Names(1), same) || g.Degree(10) != many+2 || g.Degree(9+many) != 2 || !slices.Equal(g.Reached(1), []int{1, 10})) {
				t.Fatalf("%d times one: %v, %d", many, g.Names(1), g.Degree(10))
			}
			if got := g.Reached(0); len(got) != many+1 || len(g.Missing(0)) != 0 {
				t.Fatalf("%d named: %v", many, got)
			}
		}
	}
}

// chain lays documents of which each names the next slot's, in as many slots as there are, and in the last slot end.
func chain(n int, end string) *disk {
	d := empty(n)
	last := d.blob(slotsOf(n)-1, end)
	for slot := slotsOf(n) - 2; slot >= 0; slot-- {
		last = d.doc(slot, api.Index, last)
	}
	return d
}

// P20.4 to P20.6: chains as long as there are slots, with and without one far away that is missing.
func TestChains(t *testing.T) {
	for _, n := range []int{64, 72, 128, 481, 1024} {
		slots := slotsOf(n)
		g := check(t, chain(n, "abc").l)
		for slot := range slots {
			if l := g.Reached(slot); !g.Whole(slot) || len(l) != slots-slot || l[0] != slot || g.Degree(slot) != min(slot, 1) || len(g.Missing(slot)) != 0 {
				t.Fatalf("%d slots, slot %d: %v, %d, %v", slots, slot, g.Whole(slot), g.Degree(slot), l)
			}
		}
		g = check(t, chain(n, text(api.Manifest, nowhere(3))).l)
		for slot := range slots {
			if l := g.Reached(slot); g.Whole(slot) || len(l) != slots-slot || !slices.Equal(g.Missing(slot), []api.Digest{nowhere(3).Key}) {
				t.Fatalf("%d slots, slot %d: %v, %v, %x", slots, slot, g.Whole(slot), l, g.Missing(slot))
			}
		}
		cut := slots / 2
		d := chain(n, "abc")
		gone := d.l[d.dir()+cut]
		d.tear(cut)
		g = check(t, d.l)
		for slot := range slots {
			missing := g.Missing(slot)
			switch {
			case slot < cut && (g.Whole(slot) || len(g.Reached(slot)) != cut-slot || len(missing) != 1 || missing[0] != api.Digest(gone[8:40])):
				t.Fatalf("%d slots, slot %d: %v, %x", slots, slot, g.Reached(slot), missing)
			case slot > cut && (!g.Whole(slot) || len(g.Reached(slot)) != slots-slot || len(missing) != 0):
				t.Fatalf("%d slots, slot %d: %v, %x", slots, slot, g.Reached(slot), missing)
			}
		}
		nobody(t, g, cut)
		if g.Degree(cut+1) != 0 {
			t.Error("named by one that is torn")
		}
	}
}

// P20.3 to P20.6: descriptors whose digest is there with the right size, with another one, of an entry that is lost or kept alone, and of none.
func TestDescriptorsThatMeetAndDoNot(t *testing.T) {
	d := empty(480)
	there := d.blob(20, "there")
	torn := d.blob(21, "torn")
	d.tear(21)
	kept := d.put(22, api.Quarantined, "kept", sha256.Sum256([]byte("kept")))
	corrupt := d.put(23, api.Live, "corrupt", sha256.Sum256([]byte("corrup_")))
	longer, shorter, negligible := there, there, there
	longer.Size++
	shorter.Size--
	negligible.Size = 0
	zero := api.Desc{}
	for slot, c := range []struct {
		named   api.Desc
		meets   bool
		missing bool
	}{
		{there, true, false}, {longer, false, false}, {shorter, false, false}, {negligible, false, false},
		{torn, false, true}, {kept, false, true}, {corrupt, false, true}, {nowhere(5), false, true}, {zero, false, true},
	} {
		d := &disk{l: slices.Clone(d.l), next: d.next}
		page := d.doc(slot, api.Manifest, c.named)
		d.doc(11, api.Index, page, there)
		g := check(t, d.l)
		at, degree := 0, 1
		if c.meets {
			at, degree = 20, 2
		}
		meets(t, g, c.named, at, c.meets)
		if g.Whole(slot) != c.meets || g.Whole(11) != c.meets || g.Degree(20) != degree || g.Degree(21)+g.Degree(22)+g.Degree(23) != 0 {
			t.Errorf("%v: %v, %v, %d", c.named, g.Whole(slot), g.Whole(11), g.Degree(20))
		}
		reaches(t, g, 11, slot, 11, 20)
		misses(t, g, 20)
		if c.missing {
			misses(t, g, slot, c.named)
			misses(t, g, 11, c.named)
		} else {
			misses(t, g, slot)
			misses(t, g, 11)
		}
	}
}

// P20.4, P20.6: a document named with another size: it isn't reached, and what it names isn't missed.
func TestNamedWithAnotherSize(t *testing.T) {
	d := empty(128)
	page := d.doc(1, api.Manifest, nowhere(1))
	page.Size--
	d.doc(0, api.Index, page, page)
	g := check(t, d.l)
	wholes(t, g, false, false)
	degrees(t, g, 0, 0)
	reaches(t, g, 0, 0)
	misses(t, g, 0)
	misses(t, g, 1, nowhere(1))
}

// P20.5: a blob is named twice by one document, by several, and by some that aren't good; and what names it may be nobody's.
func TestDegrees(t *testing.T) {
	d := empty(256)
	blob, other := d.blob(0, "abc"), d.blob(1, "abd")
	page := d.doc(2, api.Manifest, blob, other, blob)
	d.doc(3, api.Manifest, other, blob)
	d.doc(4, api.Index, page, page, page, blob, nowhere(1))
	d.put(5, api.Quarantined, text(api.Index, blob, blob), nowhere(2).Key)
	d.put(6, api.Live, text(api.Index, other, page), nowhere(3).Key)
	d.doc(7, api.Manifest, blob)
	d.tear(7)
	d.blob(8, text(api.Index, page, blob)+"]")
	degrees(t, check(t, d.l), 4, 2, 3, 0, 0, 0, 0, 0, 0, 0)
}

// P20.4: of many ways to one blob, one suffices to miss what it lacks; beside it, others are whole.
func TestWholeByManyWays(t *testing.T) {
	d := empty(480)
	blob := d.blob(9, "abc")
	fine := d.doc(8, api.Manifest, blob)
	lacking := d.doc(7, api.Manifest, blob, nowhere(1))
	d.doc(0, api.Index, fine, fine, blob)
	one := d.doc(1, api.Index, fine, lacking)
	two := d.doc(2, api.Index, lacking, fine)
	d.doc(3, api.Index, fine, one, two)
	d.doc(4, api.Index, blob, nowhere(0))
	g := check(t, d.l)
	wholes(t, g, true, false, false, false, false, false, false, false, true, true)
	reaches(t, g, 3, 1, 2, 3, 7, 8, 9)
	misses(t, g, 3, nowhere(1))
}

// P20.6: what is missing comes in the order of digests, whatever the order in which it is named, each once.
func TestMissingRises(t *testing.T) {
	d := empty(1024)
	keys := []api.Digest{{31: 1}, {31: 2}, {31: 255}, {0, 1}, {1}, {1, 0, 255}, {1, 1}, {127, 9}, {128}, {128, 31: 7}, {200}, {255}}
	var l, backward []api.Desc
	for i, key := range keys {
		l = append(l, api.Desc{Key: key, Size: i})
	}
	backward = slices.Clone(l)
	slices.Reverse(backward)
	d.doc(0, api.Index, backward...)
	d.doc(1, api.Manifest, l[3:9]...)
	again := slices.Clone(l[:4])
	for i := range again {
		again[i].Size += 7 // another size, and the same digest
	}
	d.doc(2, api.Index, slices.Concat(l[1:5], again)...)
	d.doc(3, api.Index, l[11], l[0], l[11])
	g := check(t, d.l)
	misses(t, g, 0, l...)
	misses(t, g, 1, l[3:9]...)
	misses(t, g, 2, l[:5]...)
	misses(t, g, 3, l[0], l[11])
	for _, slots := range [][]int{{1, 2, 3}, {3, 2, 1}, {2, 2, 1, 3, 1}, {-1, 3, 99, 1, 2, 500}} {
		want := []api.Digest{}
		for _, i := range []int{0, 1, 2, 3, 4, 5, 6, 7, 8, 11} {
			want = append(want, keys[i])
		}
		if got := g.Missing(slots...); !slices.Equal(got, want) {
			t.Errorf("Missing(%v): %x", slots, got)
		}
	}
}

// family is a disk with an index of two manifests, one beside it that shares a blob, and one by itself.
func family() *disk {
	d := empty(480)
	a, b, c := d.blob(12, "a"), d.blob(5, "b"), d.blob(3, "c")
	left, right := d.doc(7, api.Manifest, a, b), d.doc(1, api.Manifest, b, nowhere(1))
	d.doc(9, api.Index, left, right, left)
	d.doc(2, api.Index, right, c)
	d.doc(4, api.Index)
	return d
}

// P20.6: slots in any order, the same ones twice, and among them some that are nobody.
func TestReachedFromLists(t *testing.T) {
	g := check(t, family().l)
	for _, c := range []struct{ slots, want []int }{
		{nil, nil},
		{[]int{9}, []int{1, 5, 7, 9, 12}},
		{[]int{2}, []int{1, 2, 3, 5}},
		{[]int{9, 2}, []int{1, 2, 3, 5, 7, 9, 12}},
		{[]int{2, 9}, []int{1, 2, 3, 5, 7, 9, 12}},
		{[]int{12, 9, 12, 7, 2, 2, 9}, []int{1, 2, 3, 5, 7, 9, 12}},
		{[]int{12, 5, 3}, []int{3, 5, 12}},
		{[]int{4, 4, 4}, []int{4}},
		{[]int{0, 6, -1, 60, 59, 1 << 33}, nil},
		{[]int{60, 7, -1, 4, 6, 7}, []int{4, 5, 7, 12}},
		{[]int{5, 7}, []int{5, 7, 12}},
	} {
		if got := g.Reached(c.slots...); !slices.Equal(got, c.want) {
			t.Errorf("Reached(%v): %v, want %v", c.slots, got, c.want)
		}
		missing := g.Missing(c.slots...)
		if is := slices.Contains(c.want, 1); is != slices.Equal(missing, []api.Digest{nowhere(1).Key}) || !is && len(missing) != 0 {
			t.Errorf("Missing(%v): %x", c.slots, missing)
		}
	}
}

// P20.7: what is reached from two lists together, for all two lists of few slots.
func TestReachedFromTwoLists(t *testing.T) {
	g := graph.Of(storeOf(t, family().l))
	slots := []int{12, 5, 3, 7, 1, 9, 2, 0}
	some := func(which int) []int {
		var l []int
		for i, slot := range slots {
			if which>>i&1 == 1 {
				l = append(l, slot)
			}
		}
		return l
	}
	for one := range 256 {
		a := g.Reached(some(one)...)
		if again := g.Reached(a...); !slices.Equal(again, a) {
			t.Fatalf("%v: %v, and from these %v", some(one), a, again)
		}
		for two := range 256 {
			b := g.Reached(some(two)...)
			both := g.Reached(slices.Concat(some(one), some(two))...)
			if !slices.Equal(both, each(slices.Concat(a, b))) {
				t.Fatalf("%v and %v: %v", some(one), some(two), both)
			}
		}
	}
}
