package image_test

import (
	"encoding/binary"
	"math/rand"
	"strconv"
	"testing"

	"assay/api"
)

// entryOf is the sector of an entry, right or not; of its numbers the lowest bytes.
func entryOf(e api.Entry) api.Sector {
	s := api.Sector{0x42, byte(e.State)}
	binary.LittleEndian.PutUint16(s[2:], uint16(e.Start))
	binary.LittleEndian.PutUint16(s[4:], uint16(e.Length))
	copy(s[8:40], e.Key[:])
	return sum(s)
}

// tagOf is the sector of a tag.
func tagOf(text string, key api.Digest) api.Sector {
	s := api.Sector{0x54, byte(len(text))}
	copy(s[2:26], text)
	copy(s[26:58], key[:])
	return sum(s)
}

// snapOf is the sector of a snapshot.
func snapOf(x api.Snap) api.Sector {
	s := api.Sector{0x53}
	binary.LittleEndian.PutUint32(s[4:], x.ID)
	binary.LittleEndian.PutUint32(s[8:], x.Parent)
	copy(s[12:44], x.Layer[:])
	return sum(s)
}

// inEvery has each slot of a table of so many, from a sector on, tell something of its own, and then one behind the other be spoilt and freed.
func inEvery(t *testing.T, n, first, many int, of func(i int) api.Sector, kind func(l []api.Sector, i int) int) {
	t.Helper()
	l := make([]api.Sector, n)
	for i := range many {
		l[first+i] = of(i)
	}
	check(t, l)
	for i := range many {
		whole := l[first+i]
		for _, c := range []struct {
			s    api.Sector
			want int
		}{{whole, right}, {flipped(whole, 7*i%512), torn}, {api.Sector{63: 1}, torn}, {sum(api.Sector{}), torn}, {api.Sector{}, free}} {
			l[first+i] = c.s
			if got := kind(l, i); got != c.want {
				t.Fatalf("%d sectors, slot %d, % x: %d, want %d", n, i, c.s, got, c.want)
			}
		}
		check(t, l)
		l[first+i] = whole
	}
}

// P18.4: entries in every slot of the directory.
func TestEntriesInEverySlot(t *testing.T) {
	for _, n := range []int{64, 127, 480, 481, 961, 1024} {
		p := placesOf(n)
		inEvery(t, n, p.dir, p.slots, func(i int) api.Sector {
			return entryOf(api.Entry{State: 1 + i%2, Start: p.data + i%20, Length: 1 + i, Key: keyOf(byte(i))})
		}, func(l []api.Sector, i int) int {
			e, kind := made(t, l).Entry(i)
			if (kind == right) != (e == api.Entry{State: 1 + i%2, Start: p.data + i%20, Length: 1 + i, Key: keyOf(byte(i))}) || kind != right && e != (api.Entry{}) {
				t.Fatalf("%d sectors, slot %d: %v, %d", n, i, e, kind)
			}
			return kind
		})
	}
}

// P18.4: tags in every slot.
func TestTagsInEverySlot(t *testing.T) {
	for _, n := range []int{64, 127, 480, 481, 961, 1024} {
		p := placesOf(n)
		inEvery(t, n, p.tag, p.tags, func(i int) api.Sector {
			return tagOf("v"+strconv.Itoa(i), keyOf(byte(i)))
		}, func(l []api.Sector, i int) int {
			x, kind := made(t, l).Tag(i)
			if (kind == right) != (x == api.Tag{Name: "v" + strconv.Itoa(i), Key: keyOf(byte(i))}) || kind != right && x != (api.Tag{}) {
				t.Fatalf("%d sectors, slot %d: %v, %d", n, i, x, kind)
			}
			return kind
		})
	}
}

// P18.4: snapshots in every slot.
func TestSnapshotsInEverySlot(t *testing.T) {
	for _, n := range []int{64, 127, 480, 481, 961, 1024} {
		p := placesOf(n)
		inEvery(t, n, p.snap, p.snaps, func(i int) api.Sector {
			return snapOf(api.Snap{ID: uint32(i + 1), Parent: uint32(i * i), Layer: keyOf(byte(i))})
		}, func(l []api.Sector, i int) int {
			x, kind := made(t, l).Snap(i)
			if (kind == right) != (x == api.Snap{ID: uint32(i + 1), Parent: uint32(i * i), Layer: keyOf(byte(i))}) || kind != right && x != (api.Snap{}) {
				t.Fatalf("%d sectors, slot %d: %v, %d", n, i, x, kind)
			}
			return kind
		})
	}
}

// P18.4: what is right in one table is torn in another; an entry that is right on another disk is torn on this one.
func TestSectorsInTheWrongTable(t *testing.T) {
	for _, n := range sizes() {
		p := placesOf(n)
		entry := entryOf(api.Entry{State: 1, Start: p.data, Length: 1})
		for _, s := range []api.Sector{entry, tagOf("a", keyOf(1)), snapOf(api.Snap{ID: 1}), superOf(n), countsOf(1), bitmapOf(n, 0)[0]} {
			l := make([]api.Sector, n)
			for i := 11; i < n; i++ {
				l[i] = s
			}
			check(t, l)
		}
		for _, e := range []api.Entry{{State: 1, Start: p.data - 1, Length: 1}, {State: 1, Start: n, Length: 1}, {State: 2, Start: n - 1, Length: 65}, {State: 1, Start: p.data}, {State: 3}, {State: 0}} {
			l := make([]api.Sector, n)
			l[p.dir+1] = entryOf(e)
			if x, kind := check(t, l).Entry(1); x != (api.Entry{}) || kind != torn {
				t.Errorf("%d sectors, %v: %v, %d", n, e, x, kind)
			}
		}
	}
}

// P18.4: a table's neighbours are not seen as slots of it.
func TestSlotsBehindTheLast(t *testing.T) {
	for _, n := range sizes() {
		p := placesOf(n)
		l := make([]api.Sector, n)
		for i := 11; i < n; i++ {
			l[i] = entryOf(api.Entry{State: 1, Start: n - 1, Length: 1})
		}
		m := check(t, l)
		for _, i := range []int{-p.dir, -1, p.slots, p.slots + 1, n - p.dir - 1, n} {
			if e, kind := m.Entry(i); e != (api.Entry{}) || kind != 0 {
				t.Fatalf("%d sectors: Entry(%d): %v, %d", n, i, e, kind)
			}
		}
		for i := 11; i < n; i++ {
			l[i] = tagOf("a", keyOf(1))
		}
		m = check(t, l)
		for _, i := range []int{-p.tag, -1, p.tags, p.tags + 1, n - p.tag - 1, n} {
			if x, kind := m.Tag(i); x != (api.Tag{}) || kind != 0 {
				t.Fatalf("%d sectors: Tag(%d): %v, %d", n, i, x, kind)
			}
		}
		for i := 11; i < n; i++ {
			l[i] = snapOf(api.Snap{ID: 1})
		}
		m = check(t, l)
		for _, i := range []int{-p.snap, -1, p.snaps, p.snaps + 1, n - p.snap - 1, n} {
			if x, kind := m.Snap(i); x != (api.Snap{}) || kind != 0 {
				t.Fatalf("%d sectors: Snap(%d): %v, %d", n, i, x, kind)
			}
		}
	}
}

// drawn is a sector of a table by chance: free, right, or spoilt in one bit.
func drawn(r *rand.Rand, s api.Sector) api.Sector {
	switch r.Intn(4) {
	case 0:
		return api.Sector{}
	case 1:
		return flipped(s, r.Intn(512))
	default:
		return s
	}
}

// store is a disk by chance that holds nearly what a store has.
func store(r *rand.Rand, n int) []api.Sector {
	p := placesOf(n)
	l := noise(r, n)
	l[0], l[1] = drawn(r, superOf(n)), drawn(r, superOf(n))
	for i := range p.slots {
		l[p.dir+i] = drawn(r, entryOf(api.Entry{State: 1 + r.Intn(2), Start: p.data + r.Intn(n-p.data), Length: 1 + r.Intn(300), Key: keyOf(byte(i))}))
	}
	for i := range p.tags {
		l[p.tag+i] = drawn(r, tagOf("t"+strconv.Itoa(r.Intn(100)), keyOf(byte(i))))
	}
	for i := range p.snaps {
		l[p.snap+i] = drawn(r, snapOf(api.Snap{ID: r.Uint32() % 9, Parent: r.Uint32() % 9, Layer: keyOf(byte(i))}))
	}
	for k := range p.counts {
		l[p.count+k] = drawn(r, countsOf(r.Uint32(), 2, r.Uint32()%3))
	}
	for k, s := range bitmapOf(n, r.Intn(n), r.Intn(n), r.Intn(n)) {
		l[p.bitmap+k] = drawn(r, s)
	}
	if r.Intn(2) == 0 {
		for i := range 8 {
			l[3+i] = l[r.Intn(n)]
		}
		commit(l, chosen(r, n, 1+r.Intn(8))...)
		l[2] = drawn(r, l[2])
	}
	return l
}

// P18.1 to P18.7: disks that hold nearly a store.
func TestStoresByChance(t *testing.T) {
	r := rand.New(rand.NewSource(10))
	for range 15 {
		for _, n := range sizes() {
			check(t, store(r, n))
		}
	}
}
