package audit_test

import (
	"math/rand"
	"testing"

	"assay/api"
	"assay/geom"
)

// FSnap: each slot by itself, and all.
func TestTornSnaps(t *testing.T) {
	for _, n := range sizes() {
		tearOneByOne(t, n, api.FSnap, func(g geom.Geom) (int, int) { return g.Snap, g.Snaps })
		d := family(t, n)
		d.tear(d.g.Snap)
		d.finds(f(api.FSnap, 0), f(api.FParent, 1))
	}
}

// FSnapID: one id at several slots; the lowest one with a layer counts, and a parent's id means that one.
func TestIDsTwice(t *testing.T) {
	for _, n := range sizes() {
		d := zeros(t, n)
		one, two := d.blob(0, "abc"), d.blob(1, "de")
		last := d.g.Snaps - 1
		d.snap(0, 5, 0, one.Key)
		d.snap(1, 5, 0, two.Key)
		d.snap(2, 5+1<<16, 5, one.Key)
		d.snap(last, 5, 5, one.Key)
		d.settle().finds(f(api.FSnapID, 1), f(api.FSnapID, last))
		d.snap(0, 5, 0, nowhere(1))
		d.finds(f(api.FSnapID, last), f(api.FLayer, 0))
		d.snap(1, 5, 0, nowhere(2))
		d.finds(f(api.FLayer, 0), f(api.FLayer, 1), f(api.FCycle, last))
		d.tear(d.g.Snap + last)
		d.finds(f(api.FSnap, last), f(api.FLayer, 0), f(api.FLayer, 1), f(api.FParent, 2))
	}
}

// FLayer: a layer of nobody, of a lost entry, of a kept one; a document that lacks something is a layer like others.
func TestLayers(t *testing.T) {
	for _, n := range sizes() {
		d := zeros(t, n)
		bad := d.corrupt(0, "abc")
		torn := d.blob(1, "de")
		d.tear(d.g.Dir + 1)
		page := d.doc(2, api.Index, api.Desc{Key: nowhere(1), Size: 1})
		d.snap(0, 1, 0, bad.Key)
		d.snap(1, 2, 0, torn.Key)
		d.snap(2, 3, 0, page.Key)
		d.snap(3, 4, 0, api.Digest{})
		d.settle().finds(f(api.FSlot, 1), f(api.FCorrupt, 0), f(api.FLayer, 0), f(api.FLayer, 1), f(api.FLayer, 3))
	}
}

// FParent: a parent that is nobody's id, that of one without a layer, of a torn one; 0 is none.
func TestParents(t *testing.T) {
	for _, n := range sizes() {
		d := zeros(t, n)
		b := d.blob(0, "abc")
		last := d.g.Snaps - 1
		d.snap(0, 1, 1<<32-1, b.Key)
		d.snap(1, 2, 3, b.Key)
		d.snap(2, 3, 0, nowhere(1))
		d.snap(last, 1<<32-2, 1, b.Key)
		d.settle().finds(f(api.FLayer, 2), f(api.FParent, 0), f(api.FParent, 1))
		d.snap(2, 3, 0, b.Key)
		d.finds(f(api.FParent, 0))
		d.snap(last, 1<<32-1, 0, b.Key)
		d.finds()
		d.tear(d.g.Snap + 2)
		d.finds(f(api.FSnap, 2), f(api.FParent, 1))
	}
}

// FCycle: of one, of two, of many; at any slots the one of the least id is told, and what only leads there is in none.
func TestCycles(t *testing.T) {
	r := rand.New(rand.NewSource(7))
	for _, n := range sizes() {
		d := zeros(t, n)
		b := d.blob(0, "abc")
		d.settle()
		for _, many := range []int{1, 2, 3, d.g.Snaps - 1, d.g.Snaps} {
			ids := r.Perm(d.g.Snaps)
			slots := r.Perm(d.g.Snaps)
			least := 0
			for i := range d.g.Snaps {
				above := (i + 1) % many
				if i >= many {
					above = i - 1
				}
				d.snap(slots[i], uint32(10+ids[i]), uint32(10+ids[above]), b.Key)
				if i < many && ids[i] < ids[least] {
					least = i
				}
			}
			d.finds(f(api.FCycle, slots[least]))
		}
	}
}

// FCycle: several at once, each told once; a lost layer breaks one.
func TestSeveralCycles(t *testing.T) {
	for _, n := range []int{128, 481, 1024} {
		d := zeros(t, n)
		b := d.blob(0, "abc")
		d.settle()
		last := uint32(d.g.Snaps - 1)
		d.snap(0, 30, 20, b.Key)
		d.snap(1, 20, 30, b.Key)
		d.snap(2, 7, 7, b.Key)
		d.snap(3, 12, 11, b.Key)
		d.snap(4, 11, 13, b.Key)
		d.snap(5, 13, 12, b.Key)
		d.snap(int(last), 1, 30, b.Key)
		d.finds(f(api.FCycle, 1), f(api.FCycle, 2), f(api.FCycle, 4))
		d.snap(5, 13, 12, nowhere(1))
		d.finds(f(api.FLayer, 5), f(api.FParent, 4), f(api.FCycle, 1), f(api.FCycle, 2))
		d.tear(d.g.Snap + 2)
		d.snap(1, 20, 21, b.Key)
		d.finds(f(api.FSnap, 2), f(api.FLayer, 5), f(api.FParent, 1), f(api.FParent, 4))
	}
	for _, n := range sizes() {
		d := zeros(t, n)
		b := d.blob(0, "abc")
		var all []api.Finding
		for at := range d.g.Snaps {
			d.snap(at, uint32(at+1), uint32(at+1), b.Key)
			all = append(all, f(api.FCycle, at))
		}
		d.settle().finds(all...)
	}
}

// FCycle: an id that stands twice is the lower slot's, and so is its parent.
func TestCyclesOfIDsTwice(t *testing.T) {
	d := zeros(t, 64)
	b := d.blob(0, "abc")
	d.snap(0, 5, 7, b.Key)
	d.snap(1, 7, 0, b.Key)
	d.snap(2, 7, 5, b.Key)
	d.settle().finds(f(api.FSnapID, 2))
	d.snap(1, 7, 0, nowhere(1))
	d.finds(f(api.FLayer, 1), f(api.FCycle, 0))
}
