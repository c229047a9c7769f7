package mend_test

import (
	"testing"

	"assay/api"
)

// counted holds the counts of slots from 0 on; all others have 0.
func (d *disk) counted(want ...uint32) {
	d.t.Helper()
	m := d.mended()
	for _, at := range numbers() {
		n := uint32(0)
		if at >= 0 && at < len(want) {
			n = want[at]
		}
		if got := m.Count(at); got != n {
			d.t.Errorf("%d sectors, slot %d: %d, want %d", len(d.l), at, got, n)
		}
	}
}

// P24.4: named by nobody, once, several times by one document and by several.
func TestDegrees(t *testing.T) {
	for _, n := range []int{128, 481, 1024} {
		d := zeros(t, n)
		b, other := d.blob(0, "abc"), d.blob(1, "")
		one := d.doc(2, api.Manifest, b, b, b)
		two := d.doc(3, api.Manifest, b, other)
		d.doc(4, api.Index, one, two, one, b)
		d.blob(5, "named by nobody")
		d.counted(5, 1, 2, 1, 0, 0)
	}
}

// P24.4: as many as a document may name, and documents at all slots.
func TestManyDegrees(t *testing.T) {
	d := zeros(t, 1024)
	b := d.blob(0, "abc")
	all := make([]api.Desc, api.MaxDescs)
	for i := range all {
		all[i] = b
	}
	want := []uint32{32}
	d.doc(1, api.Index, all...)
	for at := 2; d.g.Slots > at && d.room() > 500; at++ {
		d.doc(at, api.Manifest, b, api.Desc{Key: nowhere(at), Size: at})
		want[0]++
	}
	d.counted(want...)
	if want[0] < 100 {
		t.Errorf("too few to tell: %d", want[0])
	}
}

// P24.4: what documents name that are kept, lost, torn or quarantined counts for nobody; nor do descriptors with another size.
func TestNamedByNoGoodDocument(t *testing.T) {
	for _, n := range []int{128, 481, 1024} {
		d := zeros(t, n)
		b := d.blob(0, "abc")
		d.put(1, api.Live, page(t, api.Index, b, b), nowhere(1))       // kept
		d.quarantine(2, page(t, api.Manifest, b))                      // quarantined
		d.doc(3, api.Index, b)                                         // counts
		d.doc(4, api.Index, b)                                         // the same again: lost
		d.doc(5, api.Manifest, b, b, b)                                // torn
		d.doc(6, api.Manifest, b, api.Desc{Key: b.Key, Size: 2})       // counts once
		d.doc(7, api.Index, api.Desc{Key: b.Key, Size: 4}, api.Desc{}) // names nobody
		d.blob(8, page(t, api.Index, b)+"]")                           // is no document
		d.doc(9, api.Index, api.Desc{Key: b.Key, Size: 0}, b, b)       // counts twice
		d.entry(10, api.Live, d.g.Data, 2, keyOf("ab"))                // on the sector of the first one: lost
		d.doc(11, api.Manifest, api.Desc{Key: keyOf("ab"), Size: 2})   // names a lost one
		d.doc(12, api.Manifest, api.Desc{Key: nowhere(1), Size: 1}, b) // lacks something, and counts
		d.tear(d.g.Dir + 5)
		d.counted(5)
	}
}

// P24.4: entries that are kept, lost, torn: 0, whoever names them; and whatever the disk's counts are.
func TestCountsOfWhatIsNotGood(t *testing.T) {
	for _, n := range []int{128, 481, 1024} {
		d := zeros(t, n)
		bad, q := d.corrupt(0, "x"), d.quarantine(1, "y")
		good := d.blob(2, "good")
		d.blob(3, "good")
		torn := d.blob(4, "torn")
		index := d.doc(5, api.Index, bad, q, good, torn, good)
		d.doc(6, api.Index, index, bad, q, torn)
		d.tear(d.g.Dir + 4)
		d.counted(0, 0, 2, 0, 0, 1, 0)
		for at := d.g.Count; at < d.g.Data; at++ {
			d.l[at] = api.Sector{1, 2, 3, 4}
		}
		d.counted(0, 0, 2, 0, 0, 1, 0)
	}
}
