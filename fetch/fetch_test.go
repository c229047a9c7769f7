package fetch_test

import (
	"testing"

	"assay/api"
	"assay/fetch"
	"assay/image"
)

// The chapter's examples.
func TestTheChaptersExamples(t *testing.T) {
	for _, n := range sizes() {
		d := zeros(t, n)
		b := d.blob(0, "abc")
		half := d.doc(1, api.Manifest, b, gone(1))
		d.plans() // no tags
		d.tag(0, "v1", half.Key)
		d.plans(nowhere(1))
		d.tag(0, "v1", nowhere(2)) // no document names it
		d.plans()
		d.tag(0, "v1", half.Key)
		d.tag(2, "v1", d.doc(2, api.Manifest, gone(3)).Key)
		d.plans(nowhere(1), nowhere(3))
		d.of("v1", nowhere(1), nowhere(3))

		d = zeros(t, n)
		b = d.blob(0, "abc")
		lost := d.doc(1, api.Manifest, b, gone(1))
		d.tag(0, "v1", d.doc(2, api.Index, lost).Key)
		d.plans(nowhere(1))
		d.free(1)
		d.plans(lost.Key)

		d = zeros(t, n)
		b = d.blob(0, "abc")
		b.Size++
		d.tag(0, "v1", d.doc(1, api.Manifest, b).Key)
		d.plans()
	}
}

// DOC.md's sixth example: a tag of an index that names a manifest that is lost, in each way in which one can be lost.
func TestExampleOfALostManifest(t *testing.T) {
	for how, lose := range map[string]func(d *disk){
		"freed":       func(d *disk) { d.free(1) },
		"torn":        func(d *disk) { d.tear(d.g.Dir + 1) },
		"other bytes": func(d *disk) { d.l[d.g.Data+1][5] ^= 4 },
		"quarantined": func(d *disk) { e, _ := d.image().Entry(1); d.entry(1, api.Quarantined, e.Start, e.Length, e.Key) },
		"other key":   func(d *disk) { e, _ := d.image().Entry(1); d.entry(1, api.Live, e.Start, e.Length, nowhere(9)) },
		"cut":         func(d *disk) { e, _ := d.image().Entry(1); d.entry(1, api.Live, e.Start, e.Length-1, e.Key) },
		"overlapped":  func(d *disk) { d.lying(0, d.g.Data, 70) },
	} {
		for _, n := range sizes() {
			d := zeros(t, n)
			b := d.blob(0, "abc")
			lost := d.doc(1, api.Manifest, b, gone(1), gone(2))
			d.tag(0, "v1", d.doc(2, api.Index, lost, gone(3)).Key)
			d.plans(nowhere(1), nowhere(2), nowhere(3))
			lose(d)
			if got := fetch.Plan(d.image()); len(got) != 2 {
				t.Errorf("%d sectors, %s: %x", n, how, got)
			}
			d.plans(lost.Key, nowhere(3))
		}
	}
}

// DOC.md's tenth example: a right digest with a size that is another, by one and by more.
func TestExampleOfASize(t *testing.T) {
	for _, n := range sizes() {
		for _, size := range []int{0, 1, 2, 4, 64, 4096, 65536} {
			d := zeros(t, n)
			b := d.blob(0, "abc")
			b.Size = size
			d.tag(0, "v1", d.doc(1, api.Manifest, b).Key)
			d.plans()
			d.free(0)
			d.plans(b.Key)
		}
	}
}

// P27.1, P27.2: of no image there is none.
func TestNoImage(t *testing.T) {
	var none *image.Image
	is(t, len(fetch.Plan(nil)), 0)
	is(t, len(fetch.Plan(none)), 0)
	for _, name := range append(texts(), "v1", "v2") {
		is(t, len(fetch.Of(nil, name)), 0)
		is(t, len(fetch.Of(none, name)), 0)
	}
}

// P27.1, P27.2: disks without tags, without entries, and without either, whatever their superblocks are.
func TestNothingThere(t *testing.T) {
	for _, n := range sizes() {
		for _, super := range []int{0, n, 64 + n%960} {
			d := zeros(t, n)
			if super > 0 {
				d.supers(super)
			}
			d.plans()
			d.doc(0, api.Manifest, gone(1)) // a document, and no tag
			d.blob(1, "abc")
			d.plans()
			d = zeros(t, n)
			for at := range d.g.Tags { // tags, and no entry
				d.tag(at, "v1", nowhere(at))
			}
			d.plans()
			d.of("v1")
		}
	}
}

// P27.1: what the superblocks are is no matter.
func TestSuperblocksAreNoMatter(t *testing.T) {
	for _, n := range sizes() {
		d := family(t, n)
		want := []api.Digest{nowhere(1), nowhere(2), nowhere(3), keyOf("quarantined")}
		d.plans(want...)
		for _, super := range []int{n, 64, 1024, 64 + (n+7)%960} {
			d.supers(super)
			d.plans(want...)
		}
		d.l[0], d.l[1] = api.Sector{1}, d.l[2]
		d.plans(want...)
	}
}

// P27.1: every size from the least to the greatest: the first and the last slot, the first and the last tag, the last data sector.
func TestEverySize(t *testing.T) {
	for n := api.MinSectors; n <= api.MaxSectors; n++ {
		d := zeros(t, n)
		low := d.doc(0, api.Manifest, gone(1))
		d.next = n - 3
		high := d.doc(d.g.Slots-1, api.Manifest, gone(2))
		if d.next > n {
			t.Fatal(d.next)
		}
		d.tag(0, "low", high.Key)
		d.tag(d.g.Tags-1, "high", low.Key)
		im := d.image()
		for name, want := range map[string]api.Digest{"low": nowhere(2), "high": nowhere(1)} {
			if got := fetch.Of(im, name); len(got) != 1 || got[0] != want {
				t.Fatalf("%d sectors: of %q %x", n, name, got)
			}
		}
		if got := fetch.Plan(im); len(got) != 2 {
			t.Fatalf("%d sectors: %x", n, got)
		}
	}
}
