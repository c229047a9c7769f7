package audit_test

import (
	"fmt"
	"slices"
	"strings"
	"testing"

	"assay/api"
	"assay/crc"
	"assay/geom"
	"assay/table"
)

// FTag: each slot by itself, and all.
func TestTornTags(t *testing.T) {
	for _, n := range sizes() {
		tearOneByOne(t, n, api.FTag, func(g geom.Geom) (int, int) { return g.Tag, g.Tags })
		d := family(t, n)
		d.tear(d.g.Tag)
		d.finds(f(api.FTag, 0))
	}
}

// FTag: a name that is none, with its sum.
func TestTagsWithoutAName(t *testing.T) {
	d := emptyStore(t, 64)
	b := d.blob(0, "abc")
	d.tag(1, "a", b.Key)
	for _, c := range []byte{0, ' ', '/', 0x80} {
		s := d.l[d.g.Tag+1]
		s[2] = c
		if _, kind := table.GetTag(crc.Seal(s)); kind != table.Torn {
			t.Fatalf("% x is a name", c)
		}
		d.l[d.g.Tag+1] = crc.Seal(s)
		d.settle().finds(f(api.FTag, 1))
	}
}

// FTagTwice: one name at several slots; the lowest counts. Names that only begin alike are others.
func TestNamesTwice(t *testing.T) {
	for _, n := range sizes() {
		d := zeros(t, n)
		one, two := d.blob(0, "abc"), d.blob(1, "de")
		last := d.g.Tags - 1
		d.tag(0, "a", one.Key)
		d.tag(1, "ab", one.Key)
		d.tag(2, strings.Repeat("a", 24), two.Key)
		d.tag(last, strings.Repeat("a", 23), two.Key)
		d.settle().finds()
		d.tag(1, "a", two.Key)
		d.finds(f(api.FTagTwice, 1))
		d.tag(last, "a", one.Key)
		d.finds(f(api.FTagTwice, 1), f(api.FTagTwice, last))
		for at := range d.g.Tags {
			d.tag(at, "same", one.Key)
		}
		var all []api.Finding
		for at := 1; at < d.g.Tags; at++ {
			all = append(all, f(api.FTagTwice, at))
		}
		d.finds(all...)
	}
}

// FTagTwice, FDangling: a tag that doesn't count lets a higher one of its name count, and is told of by its closure alone.
func TestNamesOfTagsThatDoNotCount(t *testing.T) {
	for _, n := range sizes() {
		d := zeros(t, n)
		b := d.blob(0, "abc")
		last := d.g.Tags - 1
		d.tag(0, "a", nowhere(1))
		d.tag(1, "a", b.Key)
		d.tag(2, "a", nowhere(2))
		d.tag(last, "a", b.Key)
		d.settle().finds(f(api.FTagTwice, last), f(api.FDangling, 0), f(api.FDangling, 2))
		d.tear(d.g.Tag + 1)
		d.finds(f(api.FTag, 1), f(api.FDangling, 0), f(api.FDangling, 2))
	}
}

// FDangling: a key of nobody, of a lost entry, of a kept one, of a quarantined one that has it by right.
func TestTagsOfNobody(t *testing.T) {
	for _, n := range sizes() {
		d := zeros(t, n)
		bad := d.corrupt(0, "abc")
		q := d.put(1, api.Quarantined, "de", keyOf("de"))
		torn := d.blob(2, "fgh")
		d.tear(d.g.Dir + 2)
		d.tag(0, "a", bad.Key)
		d.tag(1, "b", q.Key)
		d.tag(2, "c", torn.Key)
		d.tag(3, "d", api.Digest{})
		d.settle().finds(f(api.FSlot, 2), f(api.FCorrupt, 0), f(api.FDangling, 0), f(api.FDangling, 1), f(api.FDangling, 2), f(api.FDangling, 3))
	}
}

// FDangling: what is missing lies one, two and more documents deep; a size is wrong there; or nothing is missing.
func TestClosures(t *testing.T) {
	for _, what := range []string{"whole", "lost", "kept", "size", "nowhere"} {
		d := zeros(t, 256)
		b := d.blob(0, "abc")
		switch what {
		case "lost":
			d.tear(d.g.Dir)
		case "kept":
			d.put(0, api.Quarantined, "abc", b.Key)
		case "size":
			b.Size++
		case "nowhere":
			b = api.Desc{Key: nowhere(1), Size: 3}
		}
		x := d.doc(1, api.Manifest, b)
		d.tag(0, "deep0", x.Key)
		want := []api.Finding{f(api.FDangling, 0)}
		for i := 1; i < d.g.Tags; i++ {
			other := d.blob(2*i, fmt.Sprint("other", i))
			x = d.doc(2*i+1, api.Index, other, x)
			d.tag(i, fmt.Sprint("deep", i), x.Key)
			want = append(want, f(api.FDangling, i))
		}
		switch what {
		case "whole":
			want = nil
		case "lost":
			want = slices.Insert(want, 0, f(api.FSlot, 0))
		}
		d.settle().finds(want...)
	}
}
