package mend_test

import (
	"testing"

	"assay/api"
	"assay/mend"
)

// P1, P24.1: of no image there is none, and whatever it is asked, it tells nothing.
func TestNone(t *testing.T) {
	if mend.Of(nil) != nil {
		t.Error("of no image")
	}
	var none *mend.Mended
	if none.Image() != nil || len(none.Dropped()) != 0 {
		t.Errorf("%v, %v", none.Image(), none.Dropped())
	}
	same(t, ask(t, none), nothing())
}

// P24.1: each Mended is of the image that it was made of, and of no other.
func TestImage(t *testing.T) {
	for _, n := range sizes() {
		d := family(t, n)
		a, b := imageOf(t, d.l), imageOf(t, d.l)
		m, x := mend.Of(a), mend.Of(b)
		if m.Image() != a || x.Image() != b || mend.Of(a).Image() != a {
			t.Errorf("%d sectors", n)
		}
	}
}

// The chapter's examples, and DOC.md's examples 1 and 2: the places, and disks of zeros.
func TestExamplesOfZeros(t *testing.T) {
	for _, c := range []struct{ n, slots, tags, head int }{{64, 8, 4, 29}, {1024, 128, 64, 279}} {
		d := zeros(t, c.n)
		m := d.mended()
		want := nothing()
		for at := range c.head {
			want.taken[at] = true
		}
		same(t, ask(t, m), want)
		b := d.blob(c.slots-1, "abc")
		d.tag(c.tags-1, "last", b.Key)
		d.snap(c.tags-1, 1, 0, b.Key)
		want.entries[c.slots-1] = api.Entry{State: api.Live, Start: c.head, Length: 3, Key: b.Key}
		want.tags[c.tags-1] = api.Tag{Name: "last", Key: b.Key}
		want.snaps[c.tags-1] = api.Snap{ID: 1, Layer: b.Key}
		want.taken[c.head] = true
		same(t, ask(t, d.mended()), want)
	}
	m := zeros(t, 64).mended()
	if e, ok := m.Entry(-1); ok || e != (api.Entry{}) {
		t.Error(e, ok)
	}
	if x, ok := m.Tag(99); ok || x != (api.Tag{}) {
		t.Error(x, ok)
	}
}

// DOC.md's example 3: an entry with its key, and with another.
func TestExampleOfOneEntry(t *testing.T) {
	for _, key := range []api.Digest{keyOf("abc"), keyOf("abd")} {
		d := zeros(t, 64)
		d.put(0, api.Live, "abc", key)
		want := api.Entry{State: api.Live, Start: 29, Length: 3, Key: key}
		if key != keyOf("abc") {
			want.State = api.Quarantined
		}
		m := d.mended()
		if e, ok := m.Entry(0); e != want || !ok || !m.Taken(29) || m.Taken(30) {
			t.Errorf("%v, %v", e, ok)
		}
	}
}

// DOC.md's example 4: three for a quarantine of two.
func TestExampleOfACrowd(t *testing.T) {
	d := zeros(t, 64)
	d.corrupt(1, "x")
	d.corrupt(2, "y")
	d.corrupt(5, "z")
	m := d.mended()
	is(t, entries(m), "1Q,2Q")
	drops(t, m, 5)
	is(t, m.Taken(29) && m.Taken(30) && !m.Taken(31), true)
	d.put(5, api.Quarantined, "z", nowhere(5))
	m = d.mended()
	is(t, entries(m), "1Q,2Q")
	drops(t, m, 5)
}

// DOC.md's example 5: one key twice; one sector twice.
func TestExampleOfTwins(t *testing.T) {
	d := zeros(t, 64)
	d.blob(3, "abc")
	d.blob(4, "abc")
	m := d.mended()
	is(t, entries(m), "3L")
	is(t, m.Taken(30), false)
	d.l[d.g.Dir+4] = d.l[d.g.Dir+3]
	is(t, entries(d.mended()), "3L")
	d = zeros(t, 64)
	d.blob(3, "ab")
	d.entry(4, api.Live, 29, 1, keyOf("a"))
	m = d.mended()
	is(t, entries(m), "3L")
	drops(t, m)
}

// DOC.md's example 6: a tag of an index that names a manifest that is lost.
func TestExampleOfALostManifest(t *testing.T) {
	d := zeros(t, 64)
	b := d.blob(0, "abc")
	one := d.doc(1, api.Manifest, b)
	index := d.doc(2, api.Index, one)
	d.tag(0, "v1", index.Key)
	m := d.mended()
	is(t, tagsTold(m), "0:v1")
	is(t, [3]uint32{m.Count(0), m.Count(1), m.Count(2)}, [3]uint32{1, 1, 0})
	d.tear(d.g.Dir + 1)
	m = d.mended()
	is(t, tagsTold(m), "")
	is(t, entries(m), "0L,2L")
	is(t, [3]uint32{m.Count(0), m.Count(1), m.Count(2)}, [3]uint32{})
}

// DOC.md's example 7: a cycle, and one that a lost layer breaks.
func TestExampleOfSnapshots(t *testing.T) {
	d := zeros(t, 64)
	b := d.blob(0, "abc")
	d.snap(0, 5, 7, b.Key)
	d.snap(1, 7, 9, b.Key)
	d.snap(2, 9, 5, b.Key)
	is(t, snapsTold(d.mended()), "0:5<0,1:7<9,2:9<5")
	d.snap(2, 9, 5, nowhere(1))
	is(t, snapsTold(d.mended()), "0:5<7,1:7<0")
}

// DOC.md's example 8: a mark that is committed with a tag as its target; marks that are rubbish.
func TestExampleOfMarks(t *testing.T) {
	d := zeros(t, 64)
	b := d.blob(0, "abc")
	d.tag(0, "new", b.Key)
	tag := d.l[20]
	d.tag(0, "old", b.Key)
	is(t, tagsTold(d.mended()), "0:old")
	d.commit(api.Write{At: 20, Data: tag})
	is(t, tagsTold(d.mended()), "0:new")
	d.target(5)
	is(t, tagsTold(d.mended()), "0:old")
	d.l[4] = tag
	for _, targets := range [][]int{{21, 20}, {20, 20}, {20, 64}, {2, 20}, {10, 20}} {
		d.target(targets...)
		is(t, tagsTold(d.mended()), "0:old")
	}
	d.target(20, 21)
	is(t, tagsTold(d.mended()), "0:new") // at 21 it stands twice
}

// DOC.md's example 9: a stop within a batch: however many of its targets are written, the store will be the same.
func TestExampleOfAStop(t *testing.T) {
	d := family(t, 64)
	laid := lay(t, d.mended())
	var batch []api.Write
	for _, at := range []int{0, 1, 11, 16, 17, 21, 24, 28} {
		batch = append(batch, api.Write{At: at, Data: laid[at]})
	}
	d.commit(batch...)
	want := ask(t, d.mended())
	for which := range 256 {
		l := append([]api.Sector{}, d.l...)
		for i, w := range batch {
			if which>>i&1 == 1 {
				l[w.At] = w.Data
			}
		}
		same(t, ask(t, mend.Of(imageOf(t, l))), want)
	}
}

// DOC.md's example 10: a size that is one too great.
func TestExampleOfASize(t *testing.T) {
	d := zeros(t, 64)
	b := d.blob(0, "abc")
	d.tag(0, "v1", d.doc(1, api.Index, api.Desc{Key: b.Key, Size: 4}).Key)
	m := d.mended()
	is(t, tagsTold(m), "")
	is(t, m.Count(0), 0)
	is(t, entries(m), "0L,1L")
}

// P24.1 to P24.6: a bit of all, on disks of every size, with each kind of mark.
func TestFamilies(t *testing.T) {
	for _, n := range sizes() {
		d := family(t, n)
		last := d.g.Slots - 1
		for _, kind := range []string{"empty", "committed", "rubbish"} {
			switch kind {
			case "committed":
				d.commit(api.Write{At: 0, Data: d.l[0]}, api.Write{At: n - 1, Data: api.Sector{7}})
			case "rubbish":
				d.l[2][63]++
			}
			m := d.mended()
			want := map[int]int{d.at(0): 1, d.at(1): 1, d.at(2): 1, d.at(3): 2, d.at(4): 2}
			counts := map[int]uint32{d.at(0): 1, d.at(1): 2}
			for i := range d.g.Slots {
				e, _ := m.Entry(i)
				is(t, e.State, want[i])
				is(t, m.Count(i), counts[i])
			}
			is(t, m.Image().Mark(), map[string]int{"empty": 1, "committed": 2, "rubbish": 3}[kind])
			if x, _ := m.Tag(d.g.Tags - 1); x != (api.Tag{Name: "v2", Key: keyOf("abc")}) {
				t.Errorf("%d sectors: %v", n, x)
			}
			if x, _ := m.Snap(d.g.Snaps - 1); x.ID != 3 || x.Parent != 0 {
				t.Errorf("%d sectors: %v", n, x)
			}
			if _, ok := m.Entry(last); ok {
				t.Errorf("%d sectors: slot %d", n, last)
			}
			drops(t, m)
		}
	}
}
