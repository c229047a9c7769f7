package audit_test

import (
	"slices"
	"strings"
	"testing"

	"assay/api"
	"assay/crc"
	"assay/geom"
	"assay/slot"
)

// FSlot: each slot by itself, and all: a free one, a good one and a kept one whose sector is torn.
func TestTornSlots(t *testing.T) {
	for _, n := range sizes() {
		tearOneByOne(t, n, api.FSlot, func(g geom.Geom) (int, int) { return g.Dir, g.Slots })
		d := family(t, n)
		d.tear(d.g.Dir + d.at(3))
		d.settle().finds(f(api.FSlot, d.at(3)))
		d = family(t, n)
		d.tear(d.g.Dir + d.at(2))
		d.settle().finds(f(api.FSlot, d.at(2)), f(api.FDangling, 0), f(api.FLayer, 1), f(api.FParent, d.g.Snaps-1))
	}
}

// FSlot: entries that are not right on this disk, with their sums.
func TestSlotsThatAreNotRight(t *testing.T) {
	for _, n := range sizes() {
		for _, e := range []api.Entry{
			{State: 3, Start: n - 1, Length: 1}, {State: 0, Start: n - 1, Length: 1},
			{State: 1, Start: n, Length: 1}, {State: 1, Start: n - 1, Length: 65}, {State: 2, Start: n - 1, Length: 0},
			{State: 1, Start: 0, Length: 1}, {State: 2, Start: n - 65, Length: 4097},
		} {
			d := emptyStore(t, n)
			s := api.Sector{0x42, byte(e.State), byte(e.Start), byte(e.Start >> 8), byte(e.Length), byte(e.Length >> 8)}
			if _, kind := slot.Get(crc.Seal(s), n); kind != slot.Torn {
				t.Fatalf("%v is right on %d sectors", e, n)
			}
			d.l[d.g.Dir+d.at(7)] = crc.Seal(s)
			d.finds(f(api.FSlot, d.at(7)))
		}
	}
}

// FSame: one key at several slots, with the same sectors and with others; blobs of no bytes too.
func TestOneKeyAtSeveralSlots(t *testing.T) {
	for _, n := range sizes() {
		d := zeros(t, n)
		d.blob(d.at(1), "abc")
		d.blob(d.at(3), "abc")
		d.blob(d.at(7), "abc")
		d.l[d.g.Dir+d.at(4)] = d.l[d.g.Dir+d.at(1)]
		d.settle().finds(f(api.FSame, d.at(3)), f(api.FSame, d.at(4)), f(api.FSame, d.at(7)))
		d = zeros(t, n)
		d.blob(d.at(0), "")
		d.blob(d.at(6), "")
		d.settle().finds(f(api.FSame, d.at(6)))
	}
}

// FSame, FOver: what has the key of a good one is FSame, wherever its sectors are; what has only its sectors is FOver, and hides nobody.
func TestKeysAheadOfSectors(t *testing.T) {
	for _, n := range sizes() {
		d := zeros(t, n)
		first := d.next
		d.blob(0, strings.Repeat("a", 128))
		d.blob(3, strings.Repeat("b", 10))
		d.entry(1, api.Entry{State: api.Live, Start: first, Length: 64, Key: keyOf(strings.Repeat("a", 64))})
		d.entry(2, api.Entry{State: api.Live, Start: first + 1, Length: 64, Key: keyOf(strings.Repeat("a", 64))})
		d.l[first+5] = d.l[first]
		d.entry(4, api.Entry{State: api.Live, Start: first + 5, Length: 64, Key: keyOf(strings.Repeat("a", 64))}) // good: 1 and 2 are lost
		d.entry(5, api.Entry{State: api.Live, Start: first, Length: 64, Key: keyOf(strings.Repeat("a", 64))})
		d.settle().finds(f(api.FSame, 5), f(api.FOver, 1), f(api.FOver, 2))
	}
}

// FCorrupt: a live entry, of no bytes too, that is kept. Its bytes may be a document's, or what another key says.
func TestCorruptEntries(t *testing.T) {
	for _, n := range sizes() {
		for _, b := range []string{"", "abc", strings.Repeat("x", 64), strings.Repeat("x", 65), `{"schemaVersion":2,"manifests":[]}`} {
			d := zeros(t, n)
			d.blob(0, "abc")
			d.corrupt(d.at(5), b)
			d.settle().finds(f(api.FCorrupt, d.at(5)))
		}
		d := zeros(t, n)
		d.put(0, api.Live, "abc", keyOf("abd"))
		d.put(d.at(7), api.Live, "abd", keyOf("abd")) // good: who only claims the key hides nobody
		d.settle().finds(f(api.FCorrupt, 0))
	}
}

// FCorrupt beside FOver: whose sectors are a good one's, of a lower or a higher slot, or a lower kept one's.
func TestCorruptAndOver(t *testing.T) {
	for _, n := range sizes() {
		d := zeros(t, n)
		first := d.next
		d.blob(4, "abc")
		d.corrupt(1, "x")
		over := func(at, start, state int) {
			d.entry(at, api.Entry{State: state, Start: start, Length: 2, Key: nowhere(9)})
		}
		over(0, first, api.Live)
		over(7, first, api.Live)
		over(2, first+1, api.Live)
		over(3, first, api.Quarantined)
		over(6, first+1, api.Quarantined)
		d.settle().finds(
			f(api.FOver, 0), f(api.FOver, 2), f(api.FOver, 3), f(api.FOver, 6), f(api.FOver, 7),
			f(api.FCorrupt, 0), f(api.FCorrupt, 1), f(api.FCorrupt, 2), f(api.FCorrupt, 7),
		)
	}
}

// Quarantined entries, whatever their bytes and their key: nothing is wrong with them, and nobody may name them.
func TestQuarantinedEntries(t *testing.T) {
	for _, n := range sizes() {
		d := zeros(t, n)
		d.put(0, api.Quarantined, "abc", keyOf("abc"))
		d.put(d.at(7), api.Quarantined, strings.Repeat("y", 70), nowhere(1))
		d.settle().finds()
		d.blob(d.at(3), "abc") // good: a quarantined one hides no key
		d.settle().finds()
		d.tag(0, "kept", nowhere(1))
		d.snap(0, 1, 0, nowhere(1))
		d.finds(f(api.FDangling, 0), f(api.FLayer, 0))
	}
}

// FCrowd: a quarantine that is full just so, and with one and more too many; live ones are FCorrupt beside it, quarantined ones FCrowd alone.
func TestCrowds(t *testing.T) {
	for _, n := range sizes() {
		d := zeros(t, n)
		var corrupt, crowd []api.Finding
		for at := range d.g.Slots {
			if at < d.g.Room && at%2 == 0 {
				d.quarantine(at, "q")
				continue
			}
			if at < d.g.Room || at%3 == 0 {
				d.corrupt(at, "c")
				corrupt = append(corrupt, f(api.FCorrupt, at))
			} else {
				d.put(at, api.Quarantined, "q", keyOf("q"))
			}
			if at >= d.g.Room {
				crowd = append(crowd, f(api.FCrowd, at))
			}
			if at == d.g.Room-1 || at == d.g.Room || at == d.g.Slots-1 {
				d.settle().finds(slices.Concat(corrupt, crowd)...)
			}
		}
	}
}

// FCrowd and FOver: whose sectors are somebody's is FOver, be there room or not, and takes none.
func TestCrowdsAndSectors(t *testing.T) {
	d := zeros(t, 64)
	d.blob(0, "abc")
	over := api.Entry{State: api.Quarantined, Start: 29, Length: 1, Key: nowhere(1)}
	d.entry(1, over)
	d.corrupt(2, "x")
	d.corrupt(3, "y")
	over.Start = 31
	d.entry(4, over) // slot 3 is kept there
	d.corrupt(5, "z")
	over.State = api.Live
	d.entry(6, over)
	over.Start = 32
	d.entry(7, over) // slot 5 is not
	d.settle().finds(
		f(api.FOver, 1), f(api.FOver, 4), f(api.FOver, 6),
		f(api.FCorrupt, 2), f(api.FCorrupt, 3), f(api.FCorrupt, 5), f(api.FCorrupt, 6), f(api.FCorrupt, 7),
		f(api.FCrowd, 5), f(api.FCrowd, 7),
	)
}
