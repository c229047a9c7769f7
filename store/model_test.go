package store_test

import (
	"crypto/sha256"
	"encoding/binary"
	"hash/crc32"
	"math"
	"slices"
	"testing"

	"assay/api"
	"assay/image"
	"assay/store"
)

// What a slot is, by number, and what a sector of the directory is.
const (
	none = 0
	good = 1
	kept = 2
	lost = 3

	free  = 1
	right = 2
	torn  = 3
)

// sum is the sector with the library's sum of its first 60 bytes behind them.
func sum(s api.Sector) api.Sector {
	binary.LittleEndian.PutUint32(s[60:], crc32.ChecksumIEEE(s[:60]))
	return s
}

// zeros tells whether all bytes are 0.
func zeros(b []byte) bool { return !slices.ContainsFunc(b, func(v byte) bool { return v != 0 }) }

// places is where the directory and the data lie, and what the quarantine has room for.
type places struct{ dir, slots, data, room int }

// placesOf is those of n sectors, as DOC.md tells them.
func placesOf(n int) places {
	p := places{dir: 11 + (n+479)/480, slots: n / 8, room: n / 8 / 4}
	p.data = p.dir + p.slots + n/16 + n/16 + (p.slots+14)/15
	return p
}

// targetsOf is the targets of a disk's mark, if it is committed, as DOC.md tells it; else none.
func targetsOf(l []api.Sector) []int {
	s := l[2]
	k := int(s[2])
	if s != sum(s) || s[0] != 0x4A || s[1] != 0x4D || k < 1 || k > 8 || s[3] != 0 {
		return nil
	}
	var targets []int
	var batch []byte
	for i := range k {
		at := int(binary.LittleEndian.Uint16(s[4+2*i:]))
		if at >= len(l) || at >= 2 && at <= 10 || i > 0 && at <= targets[i-1] {
			return nil
		}
		targets = append(targets, at)
		batch = append(batch, l[3+i][:]...)
	}
	if !zeros(s[4+2*k:20]) || binary.LittleEndian.Uint32(s[20:]) != crc32.ChecksumIEEE(batch) || !zeros(s[24:60]) {
		return nil
	}
	return targets
}

// judgedOf is the disk that is judged (D0).
func judgedOf(l []api.Sector) []api.Sector {
	d := slices.Clone(l)
	for i, at := range targetsOf(l) {
		d[at], d[2] = l[3+i], api.Sector{}
	}
	return d
}

// sectorsOf is the numbers of an entry's sectors.
func sectorsOf(e api.Entry) []int {
	var l []int
	for left := e.Length; left > 0; left -= 64 {
		l = append(l, e.Start+len(l))
	}
	return l
}

// readEntry is what a sector of the directory tells on a disk of n sectors.
func readEntry(s api.Sector, n int) (api.Entry, int) {
	if s == (api.Sector{}) {
		return api.Entry{}, free
	}
	e := api.Entry{
		State:  int(s[1]),
		Start:  int(binary.LittleEndian.Uint16(s[2:])),
		Length: int(binary.LittleEndian.Uint16(s[4:])),
		Key:    api.Digest(s[8:40]),
	}
	whole := s == sum(s) && s[0] == 0x42 && zeros(s[6:8]) && zeros(s[40:60])
	whole = whole && (e.State == 1 || e.State == 2) && e.Length <= 4096 && (e.Length > 0 || e.Start == 0)
	for _, at := range sectorsOf(e) {
		whole = whole && at >= placesOf(n).data && at < n
	}
	if !whole {
		return api.Entry{}, torn
	}
	return e, right
}

// slotOf is a slot as the second reading has it.
type slotOf struct {
	entry   api.Entry
	kind    int
	bytes   []byte
	hash    api.Digest
	sectors []int
	state   int
	wrong   []int
}

// fits: a live entry with its bytes' SHA-256 as key.
func (x slotOf) fits() bool { return x.kind == right && x.entry.State == 1 && x.hash == x.entry.Key }

// other: a live one with another SHA-256, or a quarantined one.
func (x slotOf) other() bool { return x.kind == right && !x.fits() }

// shares tells whether two entries have a sector in common.
func (x slotOf) shares(y slotOf) bool {
	return slices.ContainsFunc(x.sectors, func(at int) bool { return slices.Contains(y.sectors, at) })
}

// reading is the store of a disk, by DOC.md's words: first each slot's state, then what is wrong, from the states.
func reading(l []api.Sector) []slotOf {
	d := judgedOf(l)
	p := placesOf(len(d))
	all := make([]slotOf, p.slots)
	for i := range all {
		x := &all[i]
		x.entry, x.kind = readEntry(d[p.dir+i], len(d))
		if x.kind != right {
			continue
		}
		x.sectors = sectorsOf(x.entry)
		for _, at := range x.sectors {
			x.bytes = append(x.bytes, d[at][:]...)
		}
		x.bytes = x.bytes[:x.entry.Length]
		x.hash = sha256.Sum256(x.bytes)
	}
	states(all, p.room)
	for i := range all {
		all[i].wrong = wrongOf(all, i)
	}
	return all
}

// states tells of each slot whether it is good, kept or lost.
func states(all []slotOf, room int) {
	for i := range all {
		x := &all[i]
		hidden := slices.ContainsFunc(all[:i], func(y slotOf) bool {
			return y.state == good && (y.entry.Key == x.entry.Key || y.shares(*x))
		})
		switch {
		case x.kind == free:
		case x.fits() && !hidden:
			x.state = good
		default:
			x.state = lost
		}
	}
	for i := range all {
		x := &all[i]
		hidden := slices.ContainsFunc(all, func(y slotOf) bool {
			return (y.state == good || y.state == kept) && y.shares(*x)
		})
		if x.other() && !hidden && room > 0 {
			x.state = kept
			room--
		}
	}
}

// wrongOf is DOC.md's table of findings, a line each.
func wrongOf(all []slotOf, i int) []int {
	x := all[i]
	same, over := false, false
	for k, y := range all {
		if x.fits() && k < i && y.state == good && y.entry.Key == x.entry.Key {
			same = true
		}
		if x.fits() && k < i && y.state == good && y.shares(x) {
			over = true
		}
		if x.other() && (y.state == good || k < i && y.state == kept) && y.shares(x) {
			over = true
		}
	}
	var l []int
	for kind, is := range map[int]bool{
		5: x.kind == torn,
		6: same,
		7: over && !same,
		8: x.kind == right && x.entry.State == 1 && x.hash != x.entry.Key,
		9: x.other() && x.state == lost && !over,
	} {
		if is {
			l = append(l, kind)
		}
	}
	slices.Sort(l)
	return l
}

// around is every number from just below 0 to just above k, and some far off; of some the lowest bits are those of one between.
func around(k int) []int {
	l := []int{math.MinInt, math.MinInt + 3, math.MinInt32, -1<<32 + 1, -1 << 16, -64, 1 << 16, 1<<16 + 30, math.MaxInt32, 1<<32 + 1, 1 << 62, math.MaxInt - 3, math.MaxInt}
	for i := -3; i <= k+3; i++ {
		l = append(l, i)
	}
	return l
}

// imageOf is the image of a disk that is one.
func imageOf(t *testing.T, l []api.Sector) *image.Image {
	t.Helper()
	im, e := image.Of(l)
	if im == nil || e != api.OK {
		t.Fatalf("%d sectors: %v, %d", len(l), im, e)
	}
	return im
}

// check holds all that a store tells of a disk against the second reading, and against P19.7.
func check(t *testing.T, l []api.Sector) *store.Store {
	t.Helper()
	im := imageOf(t, l)
	s := store.Of(im)
	if s == nil || s.Image() != im || s.Slots() != placesOf(len(l)).slots {
		t.Fatalf("%v, %d slots", s, s.Slots())
	}
	all := reading(l)
	checkSlots(t, s, all)
	checkKeys(t, s, all)
	checkTaken(t, s, all, len(l))
	checkWhatFollows(t, s)
	return s
}

// checkSlots asks a store for each slot.
func checkSlots(t *testing.T, s *store.Store, all []slotOf) {
	t.Helper()
	for _, i := range around(len(all)) {
		var x slotOf
		if i >= 0 && i < len(all) {
			x = all[i]
		}
		if got := s.State(i); got != x.state {
			t.Fatalf("State(%d): %d, want %d", i, got, x.state)
		}
		if e, ok := s.Entry(i); e != x.entry || ok != (x.kind == right) {
			t.Fatalf("Entry(%d): %v, %v, want %v", i, e, ok, x.entry)
		}
		if got := s.Bytes(i); !slices.Equal(got, x.bytes) {
			t.Fatalf("Bytes(%d): % x, want % x", i, got, x.bytes)
		}
		if got := s.Hash(i); got != x.hash {
			t.Fatalf("Hash(%d): % x, want % x", i, got, x.hash)
		}
		if got := s.Wrong(i); !slices.Equal(got, x.wrong) {
			t.Fatalf("Wrong(%d): %v, want %v", i, got, x.wrong)
		}
	}
}

// checkKeys asks a store for every key that stands on the disk, for what the bytes would have as key, and for some that are nowhere.
func checkKeys(t *testing.T, s *store.Store, all []slotOf) {
	t.Helper()
	keys := []api.Digest{{}, {1}, {31: 1}, sha256.Sum256(nil), sha256.Sum256([]byte("abc"))}
	slots := map[api.Digest]int{}
	for i, x := range all {
		keys = append(keys, x.entry.Key, x.hash)
		if x.state == good {
			slots[x.entry.Key] = i
		}
	}
	for _, key := range keys {
		want, is := slots[key]
		if at, ok := s.Find(key); at != want || ok != is {
			t.Fatalf("Find(% x): %d, %v, want %d, %v", key, at, ok, want, is)
		}
	}
}

// checkTaken asks a store for every sector.
func checkTaken(t *testing.T, s *store.Store, all []slotOf, n int) {
	t.Helper()
	taken := make([]bool, n)
	for _, x := range all {
		if x.state == good || x.state == kept {
			for _, at := range x.sectors {
				taken[at] = true
			}
		}
	}
	for _, at := range around(n) {
		want := at >= 0 && at < n && taken[at]
		if s.Taken(at) != want {
			t.Fatalf("Taken(%d): %v", at, !want)
		}
	}
}

// checkWhatFollows holds P19.7 against a store's own answers alone.
func checkWhatFollows(t *testing.T, s *store.Store) {
	t.Helper()
	owners := map[int]int{}
	keys := map[api.Digest]int{}
	many := 0
	for i := range s.Slots() {
		e, _ := s.Entry(i)
		state, wrong := s.State(i), s.Wrong(i)
		fine := len(wrong) == 0
		switch state {
		case kept:
			many++
			fine = e.State == 2 && len(wrong) == 0 || e.State == 1 && slices.Equal(wrong, []int{8})
		case lost:
			fine = len(wrong) > 0
		case good:
			keys[e.Key]++
			fine = fine && e.State == 1 && keys[e.Key] == 1
		}
		if !fine {
			t.Fatalf("slot %d: %v, state %d, wrong %v", i, e, state, wrong)
		}
		if state == good || state == kept {
			for _, at := range sectorsOf(e) {
				owners[at]++
				if owners[at] > 1 || !s.Taken(at) {
					t.Fatalf("slot %d: sector %d is %d entries'", i, at, owners[at])
				}
			}
		}
	}
	if many > s.Slots()/4 {
		t.Fatalf("%d kept of %d slots", many, s.Slots())
	}
}
