package mend_test

import (
	"strings"
	"testing"

	"assay/api"
)

// takes holds that just the head's sectors and these are taken.
func (d *disk) takes(sectors ...int) {
	d.t.Helper()
	m := d.mended()
	want := map[int]int{}
	for _, at := range sectors {
		want[at]++
	}
	for _, at := range numbers() {
		is := at >= 0 && at < d.g.Data || want[at] > 0
		if m.Taken(at) != is {
			d.t.Errorf("%d sectors, sector %d: %v, want %v", len(d.l), at, !is, is)
		}
	}
}

// P24.4: the head's sectors and no other, whatever the bitmap says.
func TestTheHeadIsTaken(t *testing.T) {
	for _, n := range sizes() {
		d := zeros(t, n)
		d.takes()
		for at := d.g.Bitmap; at < d.g.Dir; at++ {
			d.l[at] = api.Sector{255, 255, 255, 255, 255, 255, 255, 255}
		}
		d.takes()
		laid := lay(t, family(t, n).mended())
		copy(d.l[d.g.Bitmap:d.g.Dir], laid[d.g.Bitmap:d.g.Dir])
		d.takes()
	}
}

// P24.4: sectors of good entries and of kept ones, all of them up to the last byte's; none of an entry of no bytes.
func TestSectorsOfEntries(t *testing.T) {
	for _, n := range sizes() {
		d := zeros(t, n)
		at := d.next
		d.blob(d.at(0), "")
		d.blob(d.at(1), strings.Repeat("g", 64))
		d.next++
		d.blob(d.at(2), strings.Repeat("g", 65))
		d.corrupt(d.at(3), strings.Repeat("c", 129))
		d.next++
		d.quarantine(d.at(7), "q")
		d.takes(at, at+2, at+3, at+4, at+5, at+6, at+8)
	}
	d := zeros(t, 1024)
	d.next = 1024 - 64
	d.blob(127, strings.Repeat("z", 4096))
	var last []int
	for at := 1024 - 64; at < 1024; at++ {
		last = append(last, at)
	}
	d.takes(last...)
}

// P24.4: sectors of lost entries are nobody's: of one lost by its key, by its sectors, torn, freed, for want of room; but what another one has of them stays taken.
func TestSectorsOfLostEntries(t *testing.T) {
	for _, n := range sizes() {
		d := zeros(t, n)
		at := d.next
		d.blob(d.at(0), strings.Repeat("g", 100))
		d.blob(d.at(1), strings.Repeat("g", 100)) // the same again
		d.lying(d.at(2), at+1, 200)
		d.next += 4
		d.blob(d.at(3), "torn")
		d.tear(d.g.Dir + d.at(3))
		d.blob(d.at(4), "freed")
		d.l[d.g.Dir+d.at(4)] = api.Sector{}
		d.takes(at, at+1)
		d.corrupt(d.at(5), "kept")
		d.entry(d.at(7), api.Quarantined, d.next-1, 65, nowhere(1)) // on the kept one's sector, and one more
		d.takes(at, at+1, d.next-1)
	}
	for _, n := range sizes() {
		d := zeros(t, n)
		var kept []int
		for at := range d.g.Slots {
			d.corrupt(at, "c")
			if at < d.g.Room {
				kept = append(kept, d.g.Data+at)
			}
		}
		d.takes(kept...)
	}
}
