package mend_test

import (
	"fmt"
	"strings"
	"testing"

	"assay/api"
	"assay/crc"
)

// P24.3: tags that count, as they are: of plain blobs, of documents, of no bytes; names of one and of 24 bytes.
func TestTagsThatCount(t *testing.T) {
	for _, n := range sizes() {
		d := zeros(t, n)
		b, none := d.blob(0, "abc"), d.blob(1, "")
		one := d.doc(2, api.Manifest, b, none)
		last := d.g.Tags - 1
		want := map[int]api.Tag{
			0: {Name: "a", Key: b.Key}, 1: {Name: strings.Repeat("a", 24), Key: none.Key},
			2: {Name: "0.9-rc_1", Key: one.Key}, last: {Name: "A", Key: b.Key},
		}
		for at, tag := range want {
			d.tag(at, tag.Name, tag.Key)
		}
		m := d.mended()
		for at := range d.g.Tags {
			x, ok := m.Tag(at)
			w, counts := want[at]
			if x != w || ok != counts {
				t.Errorf("%d sectors, slot %d: %v, %v", n, at, x, ok)
			}
		}
	}
}

// P24.3: torn tags and free ones; a tag without a name is torn, even with its sum.
func TestTornAndFreeTags(t *testing.T) {
	for _, n := range sizes() {
		d := zeros(t, n)
		b := d.blob(0, "abc")
		for at := range d.g.Tags {
			d.tag(at, fmt.Sprint("t", at), b.Key)
		}
		d.tear(d.g.Tag)
		d.l[d.g.Tag+1] = api.Sector{}
		s := d.l[d.g.Tag+2]
		s[2] = '/'
		d.l[d.g.Tag+2] = crc.Seal(s)
		m := d.mended()
		is(t, len(ask(t, m).tags), d.g.Tags-3)
		for at := range 3 {
			if x, ok := m.Tag(at); ok || x != (api.Tag{}) {
				t.Errorf("%d sectors, slot %d: %v, %v", n, at, x, ok)
			}
		}
	}
}

// P24.3, P24.5: one name at several slots: the lowest tag that counts has it, whatever the others' keys are.
func TestNamesTwice(t *testing.T) {
	for _, n := range sizes() {
		d := zeros(t, n)
		one, two := d.blob(0, "abc"), d.blob(1, "de")
		last := d.g.Tags - 1
		d.tag(0, "a", one.Key)
		d.tag(1, "a", two.Key)
		d.tag(2, "aa", two.Key)
		d.tag(last, "a", one.Key)
		is(t, tagsTold(d.mended()), "0:a,2:aa")
		d.tag(0, "a", nowhere(1)) // it dangles: the next one counts
		m := d.mended()
		is(t, tagsTold(m), "1:a,2:aa")
		if x, _ := m.Tag(1); x.Key != two.Key {
			t.Error(x)
		}
		d.tear(d.g.Tag + 1)
		is(t, tagsTold(d.mended()), fmt.Sprintf("2:aa,%d:a", last))
		d.tag(1, "a", nowhere(1))
		is(t, tagsTold(d.mended()), fmt.Sprintf("2:aa,%d:a", last))
		d.tag(last, "a", nowhere(1))
		is(t, tagsTold(d.mended()), "2:aa")
		for at := range d.g.Tags {
			d.tag(at, "same", one.Key)
		}
		is(t, tagsTold(d.mended()), "0:same")
		d.tear(d.g.Dir)
		is(t, tagsTold(d.mended()), "")
	}
}

// P24.3: keys of entries that are not good: kept, quarantined with their key by right, torn, dropped; a lost one whose key a good one has.
func TestTagsOfEntriesThatAreNotGood(t *testing.T) {
	for _, n := range sizes() {
		d := zeros(t, n)
		b := d.blob(0, "abc")
		d.blob(1, "abc")
		keys := []api.Digest{d.corrupt(2, "x").Key, d.quarantine(3, "y").Key, d.blob(4, "z").Key, nowhere(1), {}, keyOf("x")}
		d.tear(d.g.Dir + 4)
		for i, key := range keys {
			d.tag(0, "a", key)
			d.tag(d.g.Tags-1, "b", key)
			is(t, tagsTold(d.mended()), "")
			d.tag(i%d.g.Tags, "a", b.Key)
			is(t, tagsTold(d.mended()), fmt.Sprintf("%d:a", i%d.g.Tags))
			d.l[d.g.Tag+i%d.g.Tags] = api.Sector{}
		}
	}
}

// P24.3: what is missing lies one, two and more documents deep: no tag above it counts; those beside it do.
func TestClosures(t *testing.T) {
	for _, what := range []string{"whole", "lost", "kept", "size", "nowhere"} {
		for _, n := range []int{256, 1024} {
			d := zeros(t, n)
			b := d.blob(0, "abc")
			switch what {
			case "lost":
				d.tear(d.g.Dir)
			case "kept":
				d.quarantine(0, "abc")
			case "size":
				b.Size--
			case "nowhere":
				b = api.Desc{Key: nowhere(1), Size: 3}
			}
			x := d.doc(1, api.Manifest, b)
			d.tag(0, "deep0", x.Key)
			want := []string{"0:deep0"}
			var beside []string
			for i := 1; i+1 < d.g.Tags && d.room() > 600; i += 2 {
				other := d.blob(2*i, fmt.Sprint("other", i))
				x = d.doc(2*i+1, api.Index, other, x)
				d.tag(i, fmt.Sprint("deep", i), x.Key)
				d.tag(i+1, fmt.Sprint("beside", i), other.Key)
				beside = append(beside, fmt.Sprintf("%d:beside%d", i+1, i))
				want = append(want, fmt.Sprintf("%d:deep%d", i, i), beside[len(beside)-1])
			}
			if what != "whole" {
				want = beside
			}
			is(t, tagsTold(d.mended()), strings.Join(want, ","))
		}
	}
}

// P24.3: a tag whose closure isn't there hides no higher one of its name, and isn't hidden itself by anything but that.
func TestClosuresAndNames(t *testing.T) {
	d := zeros(t, 128)
	b := d.blob(0, "abc")
	lacking := d.doc(1, api.Index, b, api.Desc{Key: nowhere(1), Size: 1})
	fine := d.doc(2, api.Index, b)
	d.tag(0, "v", lacking.Key)
	d.tag(1, "w", fine.Key)
	d.tag(2, "v", fine.Key)
	d.tag(3, "w", lacking.Key)
	d.tag(4, "v", b.Key)
	m := d.mended()
	is(t, tagsTold(m), "1:w,2:v")
	if x, _ := m.Tag(2); x.Key != fine.Key {
		t.Error(x)
	}
}
