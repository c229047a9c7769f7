package mend_test

import (
	"slices"
	"testing"

	"assay/api"
)

// P24.4: nothing is dropped where the quarantine has room, though it be full, whatever else is lost.
func TestNothingDropped(t *testing.T) {
	for _, n := range sizes() {
		drops(t, zeros(t, n).mended())
		drops(t, family(t, n).mended())
		d := zeros(t, n)
		for at := range d.g.Room {
			d.corrupt(at, "c")
		}
		for at := d.g.Room; at < d.g.Slots; at++ {
			d.blob(at, "b") // the same again and again
		}
		drops(t, d.mended())
		is(t, len(ask(t, d.mended()).entries), d.g.Room+1)
	}
}

// P24.4: one too many and more, live and quarantined ones by turns; the lower slots go first.
func TestDropped(t *testing.T) {
	for _, n := range sizes() {
		d := zeros(t, n)
		var want []int
		for at := range d.g.Slots {
			if at%3 == 0 {
				d.quarantine(at, "q")
			} else {
				d.corrupt(at, "c")
			}
			if at >= d.g.Room {
				want = append(want, at)
			}
			if at <= d.g.Room+1 || at == d.g.Slots-1 {
				m := d.mended()
				drops(t, m, want...)
				is(t, len(ask(t, m).entries), min(at+1, d.g.Room))
			}
		}
	}
}

// P24.4: laid from the last slot on: it is the lower slots that are kept, all the same.
func TestDroppedFromTheLastSlotOn(t *testing.T) {
	for _, n := range sizes() {
		d := zeros(t, n)
		for at := d.g.Slots - 1; at >= 0; at -= 2 {
			d.corrupt(at, "c")
		}
		var all []int
		for at := (d.g.Slots - 1) % 2; at < d.g.Slots; at += 2 {
			all = append(all, at)
		}
		m := d.mended()
		drops(t, m, all[d.g.Room:]...)
		is(t, slices.Equal(ofMap(ask(t, m).entries), all[:d.g.Room]), true)
	}
}

// P24.4: whose sectors are a good one's, or a lower kept one's, is not dropped, be there room or not, and takes none.
func TestDroppedBesideOver(t *testing.T) {
	d := zeros(t, 64)
	at := d.next
	d.blob(0, "abc")
	d.entry(1, api.Quarantined, at, 1, nowhere(1)) // the good one's
	d.corrupt(2, "x")
	d.corrupt(3, "y")
	d.entry(4, api.Quarantined, at+2, 1, nowhere(4)) // the kept one's of slot 3
	d.corrupt(5, "z")
	d.entry(6, api.Live, at+2, 64, nowhere(6))
	d.entry(7, api.Live, at+3, 1, nowhere(7)) // slot 5's, which is not kept
	m := d.mended()
	drops(t, m, 5, 7)
	is(t, entries(m), "0L,2Q,3Q")
	d.l[d.g.Dir+3] = api.Sector{}
	m = d.mended() // now 4 is kept, 6 lies on it, and 5 and 7 are for nobody
	drops(t, m, 5, 7)
	is(t, entries(m), "0L,2Q,4Q")
	d.l[d.g.Dir+2] = api.Sector{}
	m = d.mended() // 4 and 5 are kept, and 7 lies on 5
	drops(t, m)
	is(t, entries(m), "0L,4Q,5Q")
}

// P24.4: torn slots and good ones take no room.
func TestDroppedBesideOthers(t *testing.T) {
	for _, n := range sizes() {
		d := zeros(t, n)
		var want []int
		kept := 0
		for at := range d.g.Slots {
			switch at % 4 {
			case 0:
				d.corrupt(at, "torn")
				d.tear(d.g.Dir + at)
			case 1:
				d.blob(at, string(rune('a'+at/4%26))+string(rune('a'+at/104)))
			default:
				d.corrupt(at, "c")
				if kept++; kept > d.g.Room {
					want = append(want, at)
				}
			}
		}
		drops(t, d.mended(), want...)
	}
}
