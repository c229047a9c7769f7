package lay_test

import (
	"encoding/hex"
	"fmt"
	"strings"
	"testing"

	"assay/api"
	"assay/lay"
)

// sector is a sector's bytes from their beginning on, written in base sixteen; zeros behind them, and the sum.
func sector(t *testing.T, text string) api.Sector {
	t.Helper()
	b, err := hex.DecodeString(strings.ReplaceAll(text, " ", ""))
	if err != nil {
		t.Fatal(err)
	}
	var s api.Sector
	copy(s[:], b)
	return summed(s)
}

// The chapter's example, and DOC.md's second: 64 sectors of zeros.
func TestExampleOfZeros(t *testing.T) {
	d := zeros(t, 64)
	super := sector(t, "41 53 53 41 59 01 00 00 40")
	want := []api.Write{{At: 0, Data: super}, {At: 1, Data: super}, {At: 11, Data: sector(t, "FF FF FF 1F")}, {At: 28, Data: sector(t, "")}}
	got := d.differ()
	if len(got) != 4 {
		t.Fatalf("%v differ", places(got))
	}
	for i, w := range got {
		is(t, w, want[i])
	}
	d.l = written(d.l, got...)
	d.differs()
}

// DOC.md's first example: where what lies on the least and on the greatest disk.
func TestExampleOfThePlaces(t *testing.T) {
	for _, c := range []struct{ n, dir, tag, snap, count, data int }{{64, 12, 20, 24, 28, 29}, {1024, 14, 142, 206, 270, 279}} {
		d := zeros(t, c.n)
		for _, at := range []int{0, d.g.Slots - 1} {
			d.blob(at, strings.Repeat("b", at+1))
		}
		last := keyOf(strings.Repeat("b", d.g.Slots))
		for _, at := range []int{0, d.g.Tags - 1} {
			d.tag(at, fmt.Sprint("t", at), last)
			d.snap(at, uint32(at+1), 0, last)
		}
		d.differ()
		head := lay.Head(d.mended())
		is(t, len(head), c.data)
		for _, at := range []int{0, 1} {
			is(t, head[at][0], 0x41)
		}
		for _, at := range []int{c.dir, c.tag - 1} {
			is(t, head[at][0], 0x42)
		}
		for _, at := range []int{c.tag, c.snap - 1} {
			is(t, head[at][0], 0x54)
		}
		for _, at := range []int{c.snap, c.count - 1} {
			is(t, head[at][0], 0x53)
		}
		for _, at := range []int{2, c.dir + 1, c.tag - 2, c.tag + 1, c.snap - 2, c.snap + 1, c.count - 2} {
			is(t, head[at], api.Sector{})
		}
		for at := c.count; at < c.data; at++ {
			is(t, head[at], sector(t, ""))
		}
	}
}

// DOC.md's third example: an entry with its key, and with another.
func TestExampleOfOneEntry(t *testing.T) {
	d := zeros(t, 64).repair()
	d.blob(0, "abc")
	d.differs(11)
	is(t, d.differ()[0].Data, sector(t, "FF FF FF 3F"))
	d.entry(0, api.Live, 29, 3, keyOf("abd"))
	d.differs(11, 12)
	want := sector(t, "42 02 1D 00 03 00 00 00"+hex.EncodeToString(d.l[12][8:40]))
	is(t, d.differ()[1].Data, want)
}

// DOC.md's fourth example: three for a quarantine of two.
func TestExampleOfACrowd(t *testing.T) {
	d := zeros(t, 64).repair()
	d.corrupt(1, "x")
	d.corrupt(2, "y")
	d.corrupt(5, "z")
	d.differs(11, 13, 14, 17)
	is(t, d.told(), "1Q 2Q")
	is(t, d.differ()[0].Data, sector(t, "FF FF FF 7F"))
	is(t, d.differ()[3].Data, api.Sector{})
	d.next--
	d.quarantine(5, "z")
	d.differs(11, 13, 14, 17)
	is(t, d.told(), "1Q 2Q")
}

// DOC.md's fifth example: one key twice; one sector twice.
func TestExampleOfTwins(t *testing.T) {
	d := zeros(t, 64).repair()
	d.blob(3, "abc")
	d.repair().differs()
	d.blob(4, "abc")
	d.differs(16)
	d.l[16] = d.l[15]
	d.differs(16)
	is(t, d.differ()[0].Data, api.Sector{})
	d = zeros(t, 64)
	d.blob(3, "ab")
	d.repair()
	d.entry(4, api.Live, 29, 1, keyOf("a"))
	d.differs(16)
	is(t, d.told(), "3L")
}

// DOC.md's sixth example: a tag of an index that names a manifest that is lost; and its tenth: a size that is one too great.
func TestExamplesOfClosures(t *testing.T) {
	d := zeros(t, 64)
	b := d.blob(0, "abc")
	one := d.doc(1, api.Manifest, b)
	index := d.doc(2, api.Index, one)
	d.tag(0, "v1", index.Key)
	d.repair().differs()
	is(t, d.told(), "0L 1L 2L 0:v1")
	is(t, lay.Head(d.mended())[28], sector(t, "01 00 00 00 01"))
	d.l[13] = api.Sector{}
	d.differs(11, 20, 28)
	is(t, d.told(), "0L 2L")
	is(t, d.differ()[2].Data, sector(t, ""))

	d = zeros(t, 64)
	b = d.blob(0, "abc")
	b.Size++
	page := d.doc(1, api.Manifest, b)
	d.repair()
	d.tag(3, "v1", page.Key)
	d.differs(23)
	is(t, d.told(), "0L 1L")
	is(t, lay.Head(d.mended())[28], sector(t, ""))
}

// DOC.md's seventh example: parents that lead round; a layer that is lost.
func TestExampleOfSnapshots(t *testing.T) {
	d := zeros(t, 64)
	b, other := d.blob(0, "abc"), d.blob(1, "de")
	d.snap(0, 5, 7, b.Key)
	d.snap(1, 7, 9, b.Key)
	d.snap(2, 9, 5, other.Key)
	d.differs(0, 1, 11, 24, 28)
	is(t, d.told(), "0L 1L 0:5<0 1:7<9 2:9<5")
	d.entry(1, api.Live, 30, 2, keyOf("df"))
	d.differs(0, 1, 11, 13, 25, 26, 28)
	is(t, d.told(), "0L 1Q 0:5<7 1:7<0")
}

// DOC.md's eighth example: a committed mark is judged behind its replay; one with a target that may not be, or two out of order, is rubbish.
func TestExampleOfMarks(t *testing.T) {
	d := zeros(t, 64)
	b := d.blob(0, "abc")
	d.tag(0, "v1", b.Key)
	d.repair().differs()
	was := d.copy()
	d.commit(api.Write{At: 20, Data: api.Sector{7}})
	d.differs(20)
	is(t, d.told(), "0L")
	d.commit(api.Write{At: 20})
	d.differs()
	is(t, d.told(), "0L")
	for _, targets := range [][]int{{5}, {2}, {21, 20}, {20, 20}} {
		d.l = written(was.l)
		d.target(targets...)
		d.differs()
		is(t, d.told(), "0L 0:v1")
		is(t, lay.Head(d.mended())[2], api.Sector{})
	}
}

// DOC.md's ninth example: of a batch that is done in part, all is done behind the replay; what differs still is told.
func TestExampleOfAStop(t *testing.T) {
	for _, n := range sizes() {
		d := family(t, n)
		writes := d.differ()
		batch := writes[:min(api.MaxBatch, len(writes))]
		d.commit(batch...)
		for i := range batch {
			half := d.copy()
			half.l = written(d.l, batch[:i]...)
			half.differs(places(writes[len(batch):])...)
		}
	}
}

// P25.3: no sectors, and numbers of sectors that no disk has.
func TestNoDisk(t *testing.T) {
	for _, n := range []int{0, 1, 2, 11, 29, 62, 63, 1025, 1026, 2048, 4096} {
		l := make([]api.Sector, n)
		for at := range l {
			l[at] = modelSuper(n)
		}
		if w, e := lay.Differ(l); len(w) != 0 || e != api.ErrSize {
			t.Errorf("%d sectors: %v, %d", n, places(w), e)
		}
	}
	if w, e := lay.Differ(nil); len(w) != 0 || e != api.ErrSize {
		t.Errorf("nil: %v, %d", places(w), e)
	}
	d := house(t, 1024)
	if w, e := lay.Differ(append(d.l, api.Sector{})); len(w) != 0 || e != api.ErrSize {
		t.Errorf("one too many: %v, %d", places(w), e)
	}
	if w, e := lay.Differ(house(t, 64).l[:63]); len(w) != 0 || e != api.ErrSize {
		t.Errorf("one too few: %v, %d", places(w), e)
	}
}

// P25.3: just so many sectors are allowed: every size from the least to the greatest.
func TestEverySize(t *testing.T) {
	for n := api.MinSectors; n <= api.MaxSectors; n++ {
		l := make([]api.Sector, n)
		w, e := lay.Differ(l)
		if e != api.OK || len(w) < 4 || w[len(w)-1].At != modelData(n)-1 {
			t.Fatalf("%d sectors: %v, %d", n, places(w), e)
		}
		if n%16 == 0 || n%15 == 1 {
			check(t, l)
		}
	}
}

// P1, P25.1, P25.2: of no store there is nothing, and its iterator is one.
func TestNone(t *testing.T) {
	is(t, len(lay.Head(nil)), 0)
	all := lay.All(nil)
	if all == nil {
		t.Fatal("no iterator")
	}
	for range 2 {
		for at, s := range all {
			t.Errorf("%d: %v", at, s)
		}
	}
}
