package fetch_test

import (
	"fmt"
	"strings"
	"testing"

	"assay/api"
)

// P27.1: a manifest that names blobs that are there, lost, in quarantine, corrupt and under a wrong size.
func TestWhatIsNamed(t *testing.T) {
	for _, n := range sizes() {
		d := zeros(t, n)
		there, same := d.blob(0, "abc"), d.blob(1, "de")
		same.Size++
		quiet, wrong, torn := d.quarantine(2, "quiet"), d.corrupt(3, "wrong"), d.blob(4, "torn")
		d.tear(d.g.Dir + 4)
		x := d.doc(5, api.Manifest, there, same, quiet, wrong, torn, gone(1))
		d.plans()
		d.tag(3, "v1", x.Key)
		d.plans(quiet.Key, wrong.Key, torn.Key, nowhere(1))
		d.entry(2, api.Live, d.g.Data+2, 5, quiet.Key)
		d.plans(wrong.Key, torn.Key, nowhere(1))
		d.tear(d.g.Dir + 4)
		d.l[d.g.Data+3][0] ^= 1
		d.plans(nowhere(1))
		d.free(0)
		d.plans(nowhere(1), there.Key)
	}
}

// P27.1: whoever is there twice, once lost and once good, needn't be got.
func TestLostAndThereToo(t *testing.T) {
	for _, n := range sizes() {
		d := zeros(t, n)
		d.quarantine(0, "abc")
		d.corrupt(1, "abc")
		b := d.blob(4, "abc")
		d.tag(0, "v1", d.doc(2, api.Index, b).Key)
		d.plans()
		d.blob(5, "abc") // FSame
		d.plans()
		d.free(4) // now that one is good
		d.plans()
		d.free(5)
		d.plans(b.Key)
	}
}

// P27.1: a descriptor that doesn't meet is not gone by: what the document names that it has the digest of is in no plan, unless it is reached otherwise.
func TestAWrongSizeIsNotGoneBy(t *testing.T) {
	for _, n := range sizes() {
		for _, by := range []int{-1, 1} {
			d := zeros(t, n)
			inner := d.doc(0, api.Manifest, gone(1))
			inner.Size += by
			d.tag(0, "v1", d.doc(1, api.Index, inner, gone(2)).Key)
			d.plans(nowhere(2))
			d.tag(1, "v2", inner.Key)
			d.plans(nowhere(1), nowhere(2))
			d.of("v1", nowhere(2))
			d.of("v2", nowhere(1))
			d.l[d.g.Tag+1] = api.Sector{}
			inner.Size -= by
			d.tag(1, "v1", d.doc(2, api.Index, inner).Key)
			d.plans(nowhere(1), nowhere(2))
			d.of("v1", nowhere(1), nowhere(2))
		}
	}
}

// P27.1: one digest that stands twice in a document, with one size and with several, and in several documents, is told once.
func TestOneDigestTwice(t *testing.T) {
	for _, n := range sizes() {
		d := zeros(t, n)
		other := gone(1)
		other.Size = 77
		one := d.doc(0, api.Manifest, gone(1), gone(2), gone(1), other)
		d.tag(0, "v1", d.doc(1, api.Index, one, gone(1), one).Key)
		d.tag(1, "v2", one.Key)
		d.plans(nowhere(1), nowhere(2))
		d.of("v2", nowhere(1), nowhere(2))
	}
}

// P27.1: as many descriptors as a document may have, told by rising digests.
func TestThirtyTwo(t *testing.T) {
	for _, n := range []int{240, 481, 1024} {
		d := zeros(t, n)
		var named []api.Desc
		for i := range api.MaxDescs {
			named = append(named, gone(i))
		}
		doc := page(t, api.Index, named...)
		if len(doc) > d.room() {
			t.Fatal(len(doc))
		}
		d.tag(0, "v1", d.blob(0, doc).Key)
		d.plans(keysUpTo(api.MaxDescs)...)
		is(t, len(check(t, d.l)), api.MaxDescs)
		// One more, and it is no document.
		d.tag(0, "v1", d.blob(0, strings.Replace(doc, "]", ","+desc(gone(99))+"]", 1)).Key)
		d.plans()
	}
}

// desc is a descriptor as text.
func desc(d api.Desc) string { return fmt.Sprintf(`{"digest":"sha256:%x","size":%d}`, d.Key, d.Size) }

// P27.1: indexes in indexes, as deep as there is room; what is lost at any depth hides what lies below it.
func TestIndexesInIndexes(t *testing.T) {
	for _, n := range []int{64, 72, 128, 481, 1024} {
		d := zeros(t, n)
		var keys, lacked []api.Digest
		x := d.doc(0, api.Manifest, gone(0))
		keys, lacked = append(keys, x.Key), append(lacked, nowhere(0))
		for i := 1; i < d.g.Slots && d.room() > 400; i++ {
			x = d.doc(i, api.Index, x, gone(i))
			keys, lacked = append(keys, x.Key), append(lacked, nowhere(i))
		}
		d.tag(0, "v1", x.Key)
		d.plans(lacked...)
		top := len(keys) - 1
		for i := range top {
			if i > 3 && i < top-2 && i != top/2 {
				continue
			}
			c := d.copy()
			c.free(i)
			c.plans(append([]api.Digest{keys[i]}, lacked[i+1:]...)...)
			c.tag(2, "v2", keys[i]) // it has no good entry: it adds nothing
			c.plans(append([]api.Digest{keys[i]}, lacked[i+1:]...)...)
			c.of("v2")
			if i > 0 {
				c.tag(3, "v3", keys[i-1])
				c.plans(append(append([]api.Digest{keys[i]}, lacked[:i]...), lacked[i+1:]...)...)
				c.of("v3", lacked[:i]...)
			}
		}
	}
}

// P27.1: a manifest that several indexes name.
func TestOneManifestOfSeveralIndexes(t *testing.T) {
	for _, n := range sizes() {
		d := zeros(t, n)
		shared := d.doc(0, api.Manifest, gone(1))
		one := d.doc(1, api.Index, shared, shared)
		two := d.doc(2, api.Index, shared, one)
		d.tag(0, "v1", one.Key)
		d.tag(1, "v2", two.Key)
		d.plans(nowhere(1))
		d.of("v1", nowhere(1))
		d.of("v2", nowhere(1))
		d.free(0)
		d.plans(shared.Key)
		d.of("v1", shared.Key)
		d.of("v2", shared.Key)
		d.free(1)
		d.of("v1")
		d.of("v2", shared.Key, one.Key)
	}
}

// P27.1: documents that would name themselves by an index, if their bytes were those of their keys: who has another's key isn't good, and is to be got.
func TestRingsByKeys(t *testing.T) {
	for _, n := range sizes() {
		d := zeros(t, n)
		index := d.doc(0, api.Index, gone(1), gone(2))
		ring := page(t, api.Index, index, gone(3))
		d.put(1, api.Live, ring, nowhere(1)) // named by the index, and names it
		d.put(2, api.Quarantined, page(t, api.Manifest, index), nowhere(2))
		d.tag(0, "v1", index.Key)
		d.tag(1, "v2", nowhere(1))
		d.plans(nowhere(1), nowhere(2))
		d.of("v2")
		// The same bytes under their own key are good, and lead to the index.
		d.free(1)
		d.next -= (len(page(t, api.Manifest, index)) + 63) / 64
		d.free(2)
		d.tag(1, "v2", d.blob(1, ring).Key)
		d.plans(nowhere(1), nowhere(2), nowhere(3))
		d.of("v1", nowhere(1), nowhere(2))
	}
}

// P27.1: plain bytes name nothing, also those that are nearly a document, or have digests in them.
func TestPlainBytes(t *testing.T) {
	doc := page(t, api.Manifest, gone(1), gone(2))
	for _, n := range few() {
		for _, b := range []string{"", "abc", desc(gone(1)), "[" + desc(gone(1)) + "]", doc[1:], doc[:len(doc)-1], doc + "x", doc + doc, strings.ToUpper(doc), strings.Replace(doc, "2", "3", 1), strings.Replace(doc, "sha256", "sha512", 1)} {
			d := zeros(t, n)
			d.tag(0, "v1", d.blob(0, b).Key)
			d.plans()
			d.of("v1")
		}
		for _, b := range []string{doc, doc + " ", " \n" + doc} {
			d := zeros(t, n)
			d.tag(0, "v1", d.blob(0, b).Key)
			d.plans(nowhere(1), nowhere(2))
		}
	}
}

// P27.1: documents that no tag reaches add nothing, though those that are reached meet the same blobs.
func TestWhatNoTagReaches(t *testing.T) {
	for _, n := range sizes() {
		d := zeros(t, n)
		b := d.blob(0, "abc")
		reached := d.doc(1, api.Manifest, b, gone(1))
		d.doc(2, api.Index, reached, gone(2))
		d.tag(1, "v1", reached.Key)
		d.plans(nowhere(1))
		d.tag(2, "v2", b.Key)
		d.plans(nowhere(1))
	}
}
