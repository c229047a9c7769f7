package graph_test

import (
	"crypto/sha256"
	"encoding/binary"
	"fmt"
	"hash/crc32"
	"math"
	"slices"
	"strings"
	"testing"

	"assay/api"
	"assay/graph"
	"assay/image"
	"assay/manifest"
	"assay/store"
)

// disk is sectors into which blobs are laid one behind the other.
type disk struct {
	l    []api.Sector
	next int // the first data sector that is left
}

// dirOf and slotsOf are where the directory lies on n sectors, and how many slots it has.
func dirOf(n int) int   { return 11 + (n+479)/480 }
func slotsOf(n int) int { return n / 8 }

// empty is a disk of n sectors, all zeros.
func empty(n int) *disk {
	return &disk{l: make([]api.Sector, n), next: dirOf(n) + slotsOf(n) + 2*(n/16) + (slotsOf(n)+14)/15}
}

// dir is where the directory begins.
func (d *disk) dir() int { return dirOf(len(d.l)) }

// room is how many bytes there is room for still.
func (d *disk) room() int { return min(64*(len(d.l)-d.next), 4096) }

// sum is the sector with the library's sum of its first 60 bytes behind them.
func sum(s api.Sector) api.Sector {
	binary.LittleEndian.PutUint32(s[60:], crc32.ChecksumIEEE(s[:60]))
	return s
}

// put lays bytes behind the last ones, and an entry of them with this state and this key.
func (d *disk) put(slot, state int, b string, key api.Digest) api.Desc {
	s := api.Sector{0x42, byte(state)}
	if len(b) > 0 {
		binary.LittleEndian.PutUint16(s[2:], uint16(d.next))
	}
	binary.LittleEndian.PutUint16(s[4:], uint16(len(b)))
	copy(s[8:40], key[:])
	d.l[d.dir()+slot] = sum(s)
	for i := range b {
		d.l[d.next+i/64][i%64] = b[i]
	}
	d.next += (len(b) + 63) / 64
	return api.Desc{Key: key, Size: len(b)}
}

// blob lays bytes that are good there, if nobody of a lower slot has their key.
func (d *disk) blob(slot int, b string) api.Desc {
	return d.put(slot, api.Live, b, sha256.Sum256([]byte(b)))
}

// doc lays a document.
func (d *disk) doc(slot, kind int, named ...api.Desc) api.Desc {
	return d.blob(slot, text(kind, named...))
}

// tear spoils a slot's sector.
func (d *disk) tear(slot int) { d.l[d.dir()+slot][9] ^= 0x20 }

// commit has the mark tell of these targets, with the sectors that the journal has.
func (d *disk) commit(targets ...int) {
	s := api.Sector{0x4A, 0x4D, byte(len(targets))}
	var batch []byte
	for i, at := range targets {
		binary.LittleEndian.PutUint16(s[4+2*i:], uint16(at))
		batch = append(batch, d.l[3+i][:]...)
	}
	binary.LittleEndian.PutUint32(s[20:], crc32.ChecksumIEEE(batch))
	d.l[2] = sum(s)
}

// text is a document's text in its shortest form.
func text(kind int, named ...api.Desc) string {
	var l []string
	for _, d := range named {
		l = append(l, fmt.Sprintf(`{"digest":"sha256:%x","size":%d}`, d.Key[:], d.Size))
	}
	if kind == api.Index {
		return `{"schemaVersion":2,"manifests":[` + strings.Join(l, ",") + `]}`
	}
	return `{"schemaVersion":2,"config":` + l[0] + `,"layers":[` + strings.Join(l[1:], ",") + `]}`
}

// nowhere is the descriptor of a blob that is laid on no disk.
func nowhere(i int) api.Desc {
	return api.Desc{Key: sha256.Sum256(fmt.Append(nil, "nowhere", i)), Size: i}
}

// storeOf is the store of sectors that are a disk.
func storeOf(t *testing.T, l []api.Sector) *store.Store {
	t.Helper()
	im, e := image.Of(l)
	if e != api.OK {
		t.Fatalf("%d sectors: %d", len(l), e)
	}
	return store.Of(im)
}

// known is a slot's good entry, as the second reading has it.
type known struct {
	good    bool
	self    api.Desc
	kind    int
	names   []api.Desc
	degree  int
	whole   bool
	reached []int // rising
}

// reading is all slots of a store by DOC.md's words. There are no rings, since no bytes tell their own SHA-256: what a document reaches is found by asking those that it names first.
func reading(s *store.Store) []known {
	all := make([]known, s.Slots())
	for slot := range all {
		if e, _ := s.Entry(slot); s.State(slot) == store.Good {
			k, l := manifest.Read(s.Bytes(slot))
			all[slot] = known{good: true, self: api.Desc{Key: e.Key, Size: e.Length}, kind: k, names: l}
		}
	}
	done := map[int]bool{}
	for slot := range all {
		follow(all, slot, done)
	}
	return all
}

// follow fills in what hangs on those whom a slot names.
func follow(all []known, slot int, done map[int]bool) {
	x := &all[slot]
	if done[slot] || !x.good {
		return
	}
	done[slot] = true
	x.whole, x.reached = true, []int{slot}
	for _, d := range x.names {
		at, ok := meeting(all, d)
		if !ok {
			x.whole = false
			continue
		}
		follow(all, at, done)
		all[at].degree++
		x.whole = x.whole && all[at].whole
		x.reached = append(x.reached, all[at].reached...)
	}
	x.reached = each(x.reached)
}

// meeting is the slot that a descriptor meets.
func meeting(all []known, d api.Desc) (int, bool) {
	for slot, x := range all {
		if x.good && x.self == d {
			return slot, true
		}
	}
	return 0, false
}

// each is numbers rising, each once.
func each(l []int) []int {
	l = slices.Clone(l)
	slices.Sort(l)
	return slices.Compact(l)
}

// reachedFrom is what is reached from slots.
func reachedFrom(all []known, slots []int) []int {
	var l []int
	for _, slot := range slots {
		if slot >= 0 && slot < len(all) {
			l = append(l, all[slot].reached...)
		}
	}
	return each(l)
}

// missingFrom is the digests that what is reached from slots names and of which there is no good entry; ordered by their texts.
func missingFrom(all []known, slots []int) []api.Digest {
	texts := map[string]api.Digest{}
	for _, slot := range reachedFrom(all, slots) {
		for _, d := range all[slot].names {
			if !slices.ContainsFunc(all, func(x known) bool { return x.good && x.self.Key == d.Key }) {
				texts[fmt.Sprintf("%x", d.Key)] = d.Key
			}
		}
	}
	var order []string
	for s := range texts {
		order = append(order, s)
	}
	slices.Sort(order)
	var l []api.Digest
	for _, s := range order {
		l = append(l, texts[s])
	}
	return l
}

// around is every number from just below 0 to just above k, and some far off; of some the lowest bits are those of one between.
func around(k int) []int {
	l := []int{math.MinInt, math.MinInt + 3, math.MinInt32, -1<<32 + 1, -1 << 16, -64, 1 << 16, 1<<16 + 1, math.MaxInt32, 1 << 32, 1<<32 + 1, 1 << 62, math.MaxInt - 3, math.MaxInt}
	for i := -3; i <= k+3; i++ {
		l = append(l, i)
	}
	return l
}

// check holds all that a graph tells of a disk against the second reading, and against P20.7.
func check(t *testing.T, l []api.Sector) *graph.Graph {
	t.Helper()
	s := storeOf(t, l)
	g := graph.Of(s)
	if g == nil {
		t.Fatal("no graph")
	}
	all := reading(s)
	checkSlots(t, g, all)
	checkMeets(t, g, all)
	checkLists(t, g, all)
	checkWhatFollows(t, g, s.Slots())
	return g
}

// checkSlots asks a graph for each slot.
func checkSlots(t *testing.T, g *graph.Graph, all []known) {
	t.Helper()
	for _, slot := range around(len(all)) {
		var x known
		if slot >= 0 && slot < len(all) {
			x = all[slot]
		}
		if got := g.Kind(slot); got != x.kind {
			t.Fatalf("Kind(%d): %d, want %d", slot, got, x.kind)
		}
		if got := g.Names(slot); !slices.Equal(got, x.names) {
			t.Fatalf("Names(%d): %v, want %v", slot, got, x.names)
		}
		if got := g.Whole(slot); got != x.whole {
			t.Fatalf("Whole(%d): %v", slot, got)
		}
		if got := g.Degree(slot); got != x.degree {
			t.Fatalf("Degree(%d): %d, want %d", slot, got, x.degree)
		}
		checkList(t, g, all, slot)
	}
}

// checkList asks a graph for what is reached, and what is missing, from some slots.
func checkList(t *testing.T, g *graph.Graph, all []known, slots ...int) {
	t.Helper()
	if got, want := g.Reached(slots...), reachedFrom(all, slots); !slices.Equal(got, want) {
		t.Fatalf("Reached(%v): %v, want %v", slots, got, want)
	}
	if got, want := g.Missing(slots...), missingFrom(all, slots); !slices.Equal(got, want) {
		t.Fatalf("Missing(%v): %x, want %x", slots, got, want)
	}
}

// checkMeets asks a graph for every descriptor that stands in a document or would meet an entry, with sizes about the right one, and for some of nobody.
func checkMeets(t *testing.T, g *graph.Graph, all []known) {
	t.Helper()
	l := []api.Desc{{}, {Size: 3}, {Key: api.Digest{31: 1}}, nowhere(1), {Key: sha256.Sum256(nil)}}
	for _, x := range all {
		l = append(append(l, x.self), x.names...)
	}
	for _, d := range l {
		for _, size := range []int{d.Size, d.Size - 1, d.Size + 1, -d.Size, 0, d.Size + 1<<32, d.Size + 1<<16, math.MinInt, math.MaxInt} {
			d := api.Desc{Key: d.Key, Size: size}
			want, is := meeting(all, d)
			if at, ok := g.Meets(d); at != want || ok != is {
				t.Fatalf("Meets(%v): %d, %v, want %d, %v", d, at, ok, want, is)
			}
		}
	}
}

// checkLists asks a graph for what is reached from several slots: in any order, some of them twice, some of them nobody.
func checkLists(t *testing.T, g *graph.Graph, all []known) {
	t.Helper()
	n := len(all)
	checkList(t, g, all)
	checkList(t, g, all, around(n)...)
	for slot := range n {
		other := (slot*5 + 3) % n
		checkList(t, g, all, slot, slot)
		checkList(t, g, all, slot, other)
		checkList(t, g, all, other, slot, -1, other, n, slot)
	}
}

// checkWhatFollows holds P20.7 against a graph's own answers alone.
func checkWhatFollows(t *testing.T, g *graph.Graph, slots int) {
	t.Helper()
	degrees, met := 0, 0
	for slot := range slots {
		reached := g.Reached(slot)
		degrees += g.Degree(slot)
		whole := len(reached) > 0
		for _, at := range reached {
			whole = whole && meetingAll(g, at) == len(g.Names(at))
		}
		if g.Whole(slot) != whole {
			t.Fatalf("Whole(%d): %v", slot, !whole)
		}
		if whole && len(g.Missing(slot)) > 0 {
			t.Fatalf("slot %d is whole, and misses %x", slot, g.Missing(slot))
		}
		met += meetingAll(g, slot)
		if again := g.Reached(reached...); !slices.Equal(again, reached) {
			t.Fatalf("slot %d: %v, and from these %v", slot, reached, again)
		}
		other := (slot*7 + 1) % slots
		if got, want := g.Reached(slot, other), each(slices.Concat(reached, g.Reached(other))); !slices.Equal(got, want) {
			t.Fatalf("Reached(%d, %d): %v, want %v", slot, other, got, want)
		}
	}
	if degrees != met {
		t.Fatalf("the degrees add up to %d, and %d descriptors meet", degrees, met)
	}
}

// meetingAll is how many of a slot's descriptors meet.
func meetingAll(g *graph.Graph, slot int) int {
	many := 0
	for _, d := range g.Names(slot) {
		if _, ok := g.Meets(d); ok {
			many++
		}
	}
	return many
}
