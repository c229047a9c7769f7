package fetch_test

import (
	"fmt"
	"strings"
	"testing"

	"assay/api"
	"assay/crc"
	"assay/fetch"
	"assay/mend"
)

// P27.1: a torn tag adds nothing, however it is torn; also where its sum is right and a name can be seen in it.
func TestTornTags(t *testing.T) {
	for _, n := range sizes() {
		d := zeros(t, n)
		lacking := d.doc(0, api.Manifest, gone(1))
		for _, at := range []int{0, 1, d.g.Tags - 1} {
			d.tag(at, "v1", lacking.Key)
			d.plans(nowhere(1))
			right := d.l[d.g.Tag+at]
			for _, byte := range []int{0, 1, 2, 3, 25, 26, 57, 58, 59, 60, 63} {
				d.l[d.g.Tag+at] = right
				d.l[d.g.Tag+at][byte] ^= 1
				d.plans()
				d.of("v1")
			}
			for what, spoil := range map[string]func(s *api.Sector){
				"another sign":         func(s *api.Sector) { s[0] = 'S' },
				"no bytes of a name":   func(s *api.Sector) { s[1] = 0 },
				"too many":             func(s *api.Sector) { s[1] = 25 },
				"fewer than there are": func(s *api.Sector) { s[1] = 1 },
				"more than there are":  func(s *api.Sector) { s[1] = 3 },
				"no name":              func(s *api.Sector) { s[2] = '/' },
				"a letter behind it":   func(s *api.Sector) { s[25] = 'x' },
				"bytes behind the key": func(s *api.Sector) { s[59] = 1 },
			} {
				s := right
				spoil(&s)
				d.l[d.g.Tag+at] = crc.Seal(s)
				if got := fetch.Plan(d.image()); len(got) > 0 {
					t.Errorf("%d sectors, %s: %x", n, what, got)
				}
				d.plans()
				for _, name := range []string{"v1", "v", "", "/1", "v1x", "v1\x00"} {
					d.of(name)
				}
			}
			d.l[d.g.Tag+at] = api.Sector{}
		}
	}
}

// P27.1: a torn tag beside others: these add what they add.
func TestTornTagsBesideOthers(t *testing.T) {
	for _, n := range sizes() {
		d := zeros(t, n)
		one, two := d.doc(0, api.Manifest, gone(1)), d.doc(1, api.Index, gone(2))
		d.tag(0, "v1", one.Key)
		d.tag(1, "v1", two.Key)
		d.tag(2, "v2", one.Key)
		d.tear(d.g.Tag)
		d.plans(nowhere(1), nowhere(2))
		d.of("v1", nowhere(2))
		d.tear(d.g.Tag + 1)
		d.plans(nowhere(1))
		d.of("v1")
		d.tear(d.g.Tag + 2)
		d.plans()
		d.tear(d.g.Tag) // right again
		d.plans(nowhere(1))
		d.of("v2")
	}
}

// P27.1, P27.2: every tag that isn't torn is walked from, whether it counts or not.
func TestTagsThatCountAndThatDoNot(t *testing.T) {
	for _, n := range sizes() {
		d := zeros(t, n)
		b := d.blob(0, "abc")
		fine := d.doc(1, api.Manifest, b)
		one, two := d.doc(2, api.Manifest, b, gone(1)), d.doc(3, api.Manifest, gone(2))
		last := d.g.Tags - 1
		d.tag(0, "v1", fine.Key) // counts
		d.tag(1, "v1", one.Key)  // dangles, behind one that counts
		d.tag(2, "v2", two.Key)  // dangles, ahead of one that counts
		d.tag(last, "v2", b.Key)
		m := mend.Of(d.image())
		for at, counts := range map[int]bool{0: true, 1: false, 2: false, last: true} {
			_, ok := m.Tag(at)
			is(t, ok, counts)
		}
		d.plans(nowhere(1), nowhere(2))
		d.of("v1", nowhere(1))
		d.of("v2", nowhere(2))
		d.tag(2, "v1", two.Key)
		d.of("v1", nowhere(1), nowhere(2))
		d.of("v2")
	}
}

// P27.1, P27.2: one name at all slots of the tags; one key under all names.
func TestOneNameAndOneKey(t *testing.T) {
	for _, n := range sizes() {
		d := zeros(t, n)
		var keys []api.Digest
		for at := range min(d.g.Tags, (n-d.g.Data)/5) {
			x := d.doc(at, api.Manifest, gone(at), gone(at+1))
			d.tag(at, "same", x.Key)
			keys = append(keys, nowhere(at))
		}
		keys = append(keys, nowhere(len(keys)))
		d.plans(keys...)
		d.of("same", keys...)
		d = zeros(t, n)
		x := d.doc(0, api.Index, gone(5), gone(4))
		for at := range d.g.Tags {
			d.tag(at, fmt.Sprint("t", at), x.Key)
		}
		d.plans(nowhere(4), nowhere(5))
		for at := range d.g.Tags {
			d.of(fmt.Sprint("t", at), nowhere(4), nowhere(5))
		}
		d.of("t")
	}
}

// P27.2: the whole name is looked at: beginnings, endings, letters' size, and names of full length that are alike but for a byte.
func TestTheWholeName(t *testing.T) {
	d := zeros(t, 1024)
	long := strings.Repeat("n", 23)
	names := []string{"v", "v1", "V1", "v11", "1v", "1", "v.1", "v_1", "v-1", "11", "1.1", long, long + "a", long + "b", "m" + long}
	for i, name := range names {
		d.tag(i, name, d.doc(i, api.Manifest, gone(i)).Key)
	}
	d.plans(keysUpTo(len(names))...)
	for i, name := range names {
		d.of(name, nowhere(i))
	}
	for _, name := range []string{"", "v1.", " v1", "v1 ", "v111", "v/1", "v1\x00", "n", long[1:], long + "c", long + "aa", "\xff", "ü", "1v1"} {
		d.of(name)
	}
}

// keysUpTo is the keys of so many blobs that are nowhere.
func keysUpTo(many int) []api.Digest {
	var l []api.Digest
	for i := range many {
		l = append(l, nowhere(i))
	}
	return l
}

// P27.1: tags whose key has no entry, a quarantined one alone, or one alone whose bytes are others: all of documents that name what is nowhere.
func TestTagsOfNoGoodEntry(t *testing.T) {
	for _, n := range sizes() {
		d := zeros(t, n)
		doc := page(t, api.Manifest, gone(1))
		d.tag(0, "v1", keyOf(doc))
		d.plans()
		d.quarantine(0, doc)
		d.plans()
		d.corrupt(1, doc)
		d.plans()
		d.blob(2, doc)
		d.tear(d.g.Dir + 2)
		d.plans()
		d.tag(1, "v1", api.Digest{})
		d.plans()
		d.next = d.g.Data
		d.blob(3, doc) // good, on the quarantined one's sectors
		d.plans(nowhere(1))
		d.of("v1", nowhere(1))
	}
}

// P27.3: of each tag whose closure is there nothing is added: without it the plan is the same.
func TestWholeTagsAddNothing(t *testing.T) {
	for _, n := range few() {
		d := family(t, n)
		want := fetch.Plan(d.image())
		is(t, len(want), 4)
		d.l[d.g.Tag+1] = api.Sector{} // v2, which is whole
		d.plans(want...)
		d.tag(1, "v4", keyOf("abc"))
		d.plans(want...)
		d.of("v4")
		d.l[d.g.Tag+2] = api.Sector{} // what it lacks, another lacks too
		d.plans(want...)
		d.l[d.g.Tag] = api.Sector{}
		d.plans(nowhere(3), keyOf("quarantined"))
	}
}
