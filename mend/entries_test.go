package mend_test

import (
	"fmt"
	"math"
	"strings"
	"testing"

	"assay/api"
)

// tells holds an entry that is told whole.
func (d *disk) tells(at, state, start, length int, key api.Digest) {
	d.t.Helper()
	want := api.Entry{State: state, Start: start, Length: length, Key: key}
	if e, ok := d.mended().Entry(at); e != want || !ok {
		d.t.Errorf("%d sectors, slot %d: %v, %v, want %v", len(d.l), at, e, ok, want)
	}
}

// free holds that slots will be free, and that no count is told of them.
func (d *disk) free(slots ...int) {
	d.t.Helper()
	m := d.mended()
	for _, at := range slots {
		if e, ok := m.Entry(at); e != (api.Entry{}) || ok || m.Count(at) != 0 {
			d.t.Errorf("%d sectors, slot %d: %v, %v, %d", len(d.l), at, e, ok, m.Count(at))
		}
	}
}

// P24.2: good entries, as they are: of no bytes, of one sector and of many, of one byte and of as many as may be.
func TestGoodEntries(t *testing.T) {
	for _, n := range sizes() {
		for _, length := range []int{0, 1, 63, 64, 65, 128, 1000, 4096} {
			for _, i := range []int{0, 3, 7} {
				d := zeros(t, n)
				b := strings.Repeat("x", length)
				if length > d.room() {
					continue
				}
				d.next = n - (length+63)/64 // up to the last sector
				start := d.next
				if length == 0 {
					start = 0
				}
				d.blob(d.at(i), b)
				d.tells(d.at(i), api.Live, start, length, keyOf(b))
			}
		}
	}
}

// P24.2: entries kept in quarantine: quarantined, whatever they were, and all else as it was.
func TestKeptEntries(t *testing.T) {
	for _, n := range sizes() {
		for _, length := range []int{0, 1, 64, 65, 1000} {
			d := zeros(t, n)
			b := strings.Repeat("k", length)
			start, second := d.next, d.next+(length+63)/64
			if length == 0 {
				start, second = 0, 0
			}
			d.put(d.at(1), api.Live, b, nowhere(1))
			d.put(d.at(7), api.Quarantined, b, nowhere(2))
			d.tells(d.at(1), api.Quarantined, start, length, nowhere(1))
			d.tells(d.at(7), api.Quarantined, second, length, nowhere(2))
			d.entry(d.at(7), api.Quarantined, second, length, keyOf(b)) // its key by right: it stays in quarantine
			d.tells(d.at(7), api.Quarantined, second, length, keyOf(b))
		}
	}
}

// P24.2, P24.5: one key: live ones that have it by right, but the lowest, are lost; quarantined ones, and such as only claim it, are not.
func TestOneKey(t *testing.T) {
	for _, n := range sizes() {
		d := zeros(t, n)
		d.quarantine(d.at(0), "abc")
		d.put(d.at(1), api.Live, "abd", keyOf("abc"))
		d.blob(d.at(2), "abc")
		d.blob(d.at(3), "abc")
		d.l[d.g.Dir+d.at(5)] = d.l[d.g.Dir+d.at(2)]
		d.blob(d.at(7), "abc")
		d.tells(d.at(0), api.Quarantined, d.g.Data, 3, keyOf("abc"))
		d.tells(d.at(1), api.Quarantined, d.g.Data+1, 3, keyOf("abc"))
		d.tells(d.at(2), api.Live, d.g.Data+2, 3, keyOf("abc"))
		d.free(d.at(3), d.at(5), d.at(7))
		drops(t, d.mended())
	}
}

// P24.2, P24.5: sectors of a good entry of a lower slot, whole and in part.
func TestSectorsOfAGoodOne(t *testing.T) {
	for _, n := range sizes() {
		d := zeros(t, n)
		at := d.next
		d.blob(d.at(1), strings.Repeat("ab", 100)) // four sectors
		two := strings.Repeat("ab", 32)
		d.entry(d.at(2), api.Live, at, 64, keyOf(two))
		d.entry(d.at(3), api.Live, at+3, 1, keyOf("a"))
		d.lying(d.at(4), at+3, 65) // and a sector that is nobody's
		d.entry(d.at(5), api.Quarantined, at+1, 64, keyOf(two))
		d.entry(d.at(7), api.Live, at+2, 64, nowhere(1))
		is(t, len(ask(t, d.mended()).entries), 1)
		d.tells(d.at(1), api.Live, at, 200, keyOf(strings.Repeat("ab", 100)))
		d.free(d.at(2), d.at(3), d.at(4), d.at(5), d.at(7))
		drops(t, d.mended())
	}
}

// P24.2: a good entry of a higher slot goes ahead of one for the quarantine; good ones of lower slots go ahead of all.
func TestSectorsOfAHigherOne(t *testing.T) {
	for _, n := range sizes() {
		d := zeros(t, n)
		at := d.next
		d.blob(d.at(7), "abc")
		d.entry(d.at(0), api.Live, at, 3, nowhere(1))
		d.entry(d.at(1), api.Quarantined, at, 3, keyOf("abc"))
		d.free(d.at(0), d.at(1))
		d.tells(d.at(7), api.Live, at, 3, keyOf("abc"))
		d.entry(d.at(2), api.Live, at, 2, keyOf("ab"))
		d.free(d.at(0), d.at(1), d.at(7))
		d.tells(d.at(2), api.Live, at, 2, keyOf("ab"))
		drops(t, d.mended())
	}
}

// P24.2, P24.5: sectors of a lower kept entry: lost, if it would be kept itself; a lost one hides nobody.
func TestSectorsOfAKeptOne(t *testing.T) {
	for _, n := range sizes() {
		d := zeros(t, n)
		at := d.next
		d.corrupt(d.at(1), strings.Repeat("k", 128))
		d.entry(d.at(2), api.Live, at+1, 128, nowhere(2)) // lost
		d.entry(d.at(3), api.Quarantined, at+2, 64, nowhere(3))
		d.entry(d.at(4), api.Quarantined, at+1, 1, keyOf("k"))
		d.entry(d.at(5), api.Live, at, 1, nowhere(5))
		d.tells(d.at(1), api.Quarantined, at, 128, nowhere(d.at(1)))
		d.tells(d.at(3), api.Quarantined, at+2, 64, nowhere(3))
		d.free(d.at(2), d.at(4), d.at(5))
		d.entry(d.at(7), api.Live, at, 1, keyOf("k")) // good: the first one gives way to it, and lets others in
		d.tells(d.at(7), api.Live, at, 1, keyOf("k"))
		d.tells(d.at(2), api.Quarantined, at+1, 128, nowhere(2))
		d.free(d.at(1), d.at(3), d.at(4), d.at(5))
		drops(t, d.mended())
	}
}

// P24.2: torn slots and free ones, whatever the bits and the counts say.
func TestTornAndFreeSlots(t *testing.T) {
	for _, n := range sizes() {
		d := family(t, n)
		d.l = lay(t, d.mended()) // with bits and counts
		for _, i := range []int{0, 1, 3} {
			d.tear(d.g.Dir + d.at(i))
		}
		d.l[d.g.Dir+d.at(2)] = api.Sector{}
		d.free(d.at(0), d.at(1), d.at(2), d.at(3), d.at(5), d.at(6), d.at(7))
		is(t, len(ask(t, d.mended()).entries), 1) // the one that is kept still
		drops(t, d.mended())
	}
}

// P24.2, P24.3, P24.4: numbers that are no slot and no sector, with all slots full.
func TestNoSuchNumbers(t *testing.T) {
	for _, n := range sizes() {
		d := zeros(t, n)
		b := d.blob(0, "")
		for at := 1; at < d.g.Slots; at++ {
			d.blob(at, fmt.Sprint("blob", at))
		}
		for at := range d.g.Tags {
			d.tag(at, fmt.Sprint("tag", at), b.Key)
			d.snap(at, uint32(at+1), 0, b.Key)
		}
		m := d.mended()
		w := ask(t, m)
		is(t, [3]int{len(w.entries), len(w.tags), len(w.snaps)}, [3]int{d.g.Slots, d.g.Tags, d.g.Snaps})
		for _, at := range []int{math.MinInt, -1, d.g.Slots, d.g.Slots + 1, n, math.MaxInt} {
			if e, ok := m.Entry(at); e != (api.Entry{}) || ok || m.Count(at) != 0 {
				t.Errorf("%d sectors, slot %d: %v, %v, %d", n, at, e, ok, m.Count(at))
			}
		}
		for _, at := range []int{math.MinInt, -1, d.g.Tags, d.g.Tags + 1, n, math.MaxInt} {
			tag, is := m.Tag(at)
			snap, stays := m.Snap(at)
			if tag != (api.Tag{}) || is || snap != (api.Snap{}) || stays {
				t.Errorf("%d sectors, slot %d: %v, %v, %v, %v", n, at, tag, is, snap, stays)
			}
		}
		for _, at := range []int{math.MinInt, -n, -1, n, n + 1, 1024, 2048, math.MaxInt} {
			if m.Taken(at) {
				t.Errorf("%d sectors, sector %d", n, at)
			}
		}
	}
}
