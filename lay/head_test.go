package lay_test

import (
	"encoding/binary"
	"fmt"
	"math"
	"math/rand"
	"slices"
	"strings"
	"testing"

	"assay/api"
	"assay/lay"
	"assay/mark"
)

// head is the head of the disk's store, behind all that check asks.
func (d *disk) head() []api.Sector {
	d.t.Helper()
	d.differ()
	return lay.Head(d.mended())
}

// P25.1: of every size, with one, two and three sectors of the bitmap, and a last sector of counts that is full or not.
func TestHeadsOfAllSizes(t *testing.T) {
	bitmaps, full := map[int]int{}, map[bool]int{}
	for _, n := range sizes() {
		for _, d := range []*disk{zeros(t, n), family(t, n), house(t, n)} {
			is(t, len(d.head()), modelData(n))
		}
		bitmaps[(n+479)/480]++
		full[n/8%15 == 0]++
	}
	if bitmaps[1] < 5 || bitmaps[2] < 5 || bitmaps[3] < 3 || full[true] < 4 || full[false] < 5 {
		t.Errorf("too few to tell: %v, %v", bitmaps, full)
	}
}

// P25.1: what the mark was, and what else of the disk is wrong, is not seen in the mark's and the superblocks' sectors.
func TestSupersAndMark(t *testing.T) {
	r := rand.New(rand.NewSource(10))
	for _, n := range sizes() {
		for state := mark.Empty; state <= mark.Rubbish; state++ {
			d := family(t, n)
			noise(r, d.l[:2])
			noise(r, d.l[3:11])
			switch state {
			case mark.Committed:
				d.target(0, 1, n-1)
			case mark.Rubbish:
				noise(r, d.l[2:3])
			}
			is(t, imageOf(t, d.l).Mark(), state)
			head := d.head()
			is(t, head[0], modelSuper(n))
			is(t, head[1], modelSuper(n))
			is(t, head[2], api.Sector{})
		}
	}
}

// P25.1: the journal's sectors are as they are in the image, whatever the mark is.
func TestJournalStays(t *testing.T) {
	r := rand.New(rand.NewSource(11))
	for _, n := range sizes() {
		d := family(t, n)
		noise(r, d.l[3:11])
		was := slices.Clone(d.l[3:11])
		for _, targets := range [][]int{{}, {d.g.Dir}, {0, 1, 11, d.g.Dir, d.g.Tag, d.g.Snap, d.g.Data, n - 1}, {3, 4}} {
			d.l[2] = api.Sector{}
			if len(targets) > 0 {
				d.target(targets...)
			}
			if got := d.head()[3:11]; !slices.Equal(got, was) {
				t.Errorf("%d sectors, %v: another journal", n, targets)
			}
		}
	}
}

// bitmapOf is the bits of a head's bitmap that are 1.
func bitmapOf(head []api.Sector, n int) []int {
	var l []int
	for i := range n {
		if head[11+i/480][i%480/8]>>(i%8)&1 == 1 {
			l = append(l, i)
		}
	}
	return l
}

// P25.1: a bit for each sector of an entry, up to the disk's last one, and on both sides of where a sector of the bitmap ends.
func TestBits(t *testing.T) {
	for _, n := range sizes() {
		d := zeros(t, n)
		want := []int{}
		for at := range d.g.Data {
			want = append(want, at)
		}
		starts := []int{d.g.Data, n - 1}
		for _, at := range []int{479, 959} {
			if at > d.g.Data && at < n-2 {
				starts = append(starts, at)
			}
		}
		slices.Sort(starts)
		for i, at := range slices.Compact(starts) {
			length := min(65, 64*(n-at))
			state := 1 + i%2
			d.l[at][0] = byte(i)
			d.lying(i, at, length)
			e, _ := imageOf(t, d.l).Entry(i)
			d.entry(i, state, at, length, e.Key)
			for k := range (length + 63) / 64 {
				want = append(want, at+k)
			}
		}
		if got := bitmapOf(d.head(), n); !slices.Equal(got, want) {
			t.Errorf("%d sectors: %v, want %v", n, got, want)
		}
	}
}

// P25.1: entries of all lengths that there may be, at first and last slots, good and quarantined; and slots between them that are free.
func TestEntries(t *testing.T) {
	for _, n := range []int{256, 481, 1024} {
		d := zeros(t, n)
		for i, length := range []int{0, 1, 63, 64, 65, 128, 255, 256, 257, 4095, 4096} {
			if length > d.room() {
				continue
			}
			b := strings.Repeat(string(rune('a'+i)), length)
			at := i % 4
			if i > 3 {
				at = d.g.Slots - 1 - i%4
			}
			d.l[d.g.Dir+at] = api.Sector{}
			if i%3 == 1 {
				d.quarantine(at, b)
			} else {
				d.blob(at, b)
			}
			head := d.head()
			want := d.l[d.g.Dir+at]
			is(t, head[d.g.Dir+at], want)
			is(t, int(head[d.g.Dir+at][4])+256*int(head[d.g.Dir+at][5]), length)
			is(t, head[d.g.Dir+5], api.Sector{})
		}
	}
}

// P25.1: a live entry with another key becomes a quarantined one with just that key, place and length; what is lost becomes zeros.
func TestEntriesThatChange(t *testing.T) {
	for _, n := range sizes() {
		d := family(t, n)
		head := d.head()
		for i, want := range []byte{1, 1, 1, 2, 2, 0, 0, 0} {
			got := head[d.g.Dir+d.at(i)]
			is(t, got[1], want)
			if want == 0 {
				is(t, got, api.Sector{})
			}
		}
		was := d.l[d.g.Dir+d.at(4)]
		is(t, was[1], api.Live)
		was[1] = api.Quarantined
		is(t, head[d.g.Dir+d.at(4)], summed(was))
	}
}

// P25.1: tags with the shortest and the longest name, at the first and the last slot; those that don't count are zeros.
func TestTags(t *testing.T) {
	for _, n := range sizes() {
		d := zeros(t, n)
		b := d.blob(0, "abc")
		d.tag(0, "a", b.Key)
		d.tag(d.g.Tags-1, strings.Repeat("z", api.MaxName), b.Key)
		d.tag(1, "a", b.Key)
		d.tag(2, "b", nowhere(0))
		head := d.head()
		is(t, head[d.g.Tag], d.l[d.g.Tag])
		is(t, head[d.g.Tag+d.g.Tags-1], d.l[d.g.Tag+d.g.Tags-1])
		is(t, head[d.g.Tag+1], api.Sector{})
		is(t, head[d.g.Tag+2], api.Sector{})
		d.tear(d.g.Tag)
		is(t, d.head()[d.g.Tag], api.Sector{})
	}
}

// P25.1: snapshots with the least and the greatest id, at the first and the last slot; those that don't count are zeros, and a parent that is taken away is 0.
func TestSnaps(t *testing.T) {
	for _, n := range sizes() {
		d := zeros(t, n)
		b := d.blob(0, "abc")
		d.snap(0, 1, math.MaxUint32, b.Key)
		d.snap(d.g.Snaps-1, math.MaxUint32, 0, b.Key)
		d.snap(1, 1, 0, b.Key)
		d.snap(2, 0x01020304, 77, b.Key)
		head := d.head()
		is(t, head[d.g.Snap], d.l[d.g.Snap])
		is(t, head[d.g.Snap+d.g.Snaps-1], d.l[d.g.Snap+d.g.Snaps-1])
		is(t, head[d.g.Snap+1], api.Sector{})
		want := d.l[d.g.Snap+2]
		want[8] = 0
		is(t, head[d.g.Snap+2], summed(want))
		d.snap(d.g.Snaps-1, math.MaxUint32, 1, b.Key) // round: the least id is left without
		want = d.l[d.g.Snap]
		clear(want[8:12])
		is(t, d.head()[d.g.Snap], summed(want))
	}
}

// countsOf is the counts of a head, those of slots that there aren't too.
func countsOf(head []api.Sector, count int) []uint32 {
	var l []uint32
	for _, s := range head[count:] {
		for i := range 15 {
			l = append(l, binary.LittleEndian.Uint32(s[4*i:]))
		}
	}
	return l
}

// P25.1: counts of the first and of the last slot, of those on both sides of where a sector of counts ends, and 0 for all others.
func TestCounts(t *testing.T) {
	for _, n := range sizes() {
		d := zeros(t, n)
		want := make([]uint32, 15*d.g.Counts)
		named := []int{0, 14, 15, 29, 30, 44, 45, d.g.Slots - 1}
		page := 1
		for i, at := range named {
			if at >= d.g.Slots || want[at] > 0 || d.room() < 1200 {
				continue
			}
			b := d.blob(at, fmt.Sprint("b", at))
			want[at] = uint32(1 + i%3)
			d.doc(page, api.Index, slices.Repeat([]api.Desc{b}, 1+i%3)...)
			for page++; slices.Contains(named, page); page++ {
			}
		}
		if got := countsOf(d.head(), d.g.Count); !slices.Equal(got, want) {
			t.Errorf("%d sectors: %v, want %v", n, got, want)
		}
		is(t, want[0] > 0, true)
	}
}

// P25.1: a count of more than a byte has.
func TestGreatCount(t *testing.T) {
	d := zeros(t, 1024)
	b := d.blob(127, "abc")
	for i := range 12 {
		page := slices.Repeat([]api.Desc{b}, api.MaxDescs)
		page[0] = api.Desc{Key: nowhere(i), Size: i}
		d.doc(i, api.Index, page...)
	}
	is(t, countsOf(d.head(), d.g.Count)[127], 12*31)
}
