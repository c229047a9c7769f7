package graph_test

import (
	"crypto/sha256"
	"math/rand"
	"slices"
	"strings"
	"testing"

	"assay/api"
	"assay/graph"
	"assay/image"
	"assay/store"
)

// sizes is disks of the least and the greatest size, and of some between.
func sizes() []int { return []int{64, 65, 72, 127, 128, 321, 480, 481, 960, 961, 1023, 1024} }

// meets holds what Meets answers.
func meets(t *testing.T, g *graph.Graph, d api.Desc, want int, is bool) {
	t.Helper()
	if at, ok := g.Meets(d); at != want || ok != is {
		t.Errorf("Meets(%v): %d, %v, want %d, %v", d, at, ok, want, is)
	}
}

// reaches holds what is reached from one slot.
func reaches(t *testing.T, g *graph.Graph, slot int, want ...int) {
	t.Helper()
	if got := g.Reached(slot); !slices.Equal(got, want) {
		t.Errorf("Reached(%d): %v, want %v", slot, got, want)
	}
}

// misses holds what is missing from one slot on; such things in their order.
func misses(t *testing.T, g *graph.Graph, slot int, want ...api.Desc) {
	t.Helper()
	got := g.Missing(slot)
	alike := len(got) == len(want)
	for i := range min(len(got), len(want)) {
		alike = alike && got[i] == want[i].Key
	}
	if !alike {
		t.Errorf("Missing(%d): %x, want %v", slot, got, want)
	}
}

// wholes holds which slots are whole, from 0 on.
func wholes(t *testing.T, g *graph.Graph, want ...bool) {
	t.Helper()
	for slot, is := range want {
		if g.Whole(slot) != is {
			t.Errorf("Whole(%d): %v", slot, !is)
		}
	}
}

// degrees holds the degrees of slots, from 0 on.
func degrees(t *testing.T, g *graph.Graph, want ...int) {
	t.Helper()
	for slot, n := range want {
		if got := g.Degree(slot); got != n {
			t.Errorf("Degree(%d): %d, want %d", slot, got, n)
		}
	}
}

// kinds holds what the bytes of slots are, from 0 on.
func kinds(t *testing.T, g *graph.Graph, want ...int) {
	t.Helper()
	for slot, kind := range want {
		if got := g.Kind(slot); got != kind {
			t.Errorf("Kind(%d): %d, want %d", slot, got, kind)
		}
	}
}

// nobody holds that a slot is nobody.
func nobody(t *testing.T, g *graph.Graph, slot int) {
	t.Helper()
	if g.Kind(slot) != api.Plain || len(g.Names(slot)) != 0 || g.Whole(slot) || g.Degree(slot) != 0 || len(g.Reached(slot)) != 0 || len(g.Missing(slot)) != 0 {
		t.Errorf("slot %d: %d, %v, %v, %d, %v, %x", slot, g.Kind(slot), g.Names(slot), g.Whole(slot), g.Degree(slot), g.Reached(slot), g.Missing(slot))
	}
}

// P20.1 to P20.6: the chapter's examples.
func TestTheChaptersExamples(t *testing.T) {
	d := empty(128)
	blob := d.blob(0, "abc")
	page := d.doc(1, api.Manifest, blob)
	twice := d.doc(2, api.Index, page, page)
	gone := nowhere(1)
	d.doc(3, api.Index, page, gone)
	d.put(4, api.Live, "x", gone.Key)
	g := check(t, d.l)
	kinds(t, g, api.Plain, api.Manifest, api.Index, api.Index, api.Plain)
	nobody(t, g, -1)
	nobody(t, g, 4)
	if l := g.Names(2); !slices.Equal(l, []api.Desc{page, page}) || len(g.Names(0)) != 0 {
		t.Error(l, g.Names(0))
	}
	meets(t, g, blob, 0, true)
	meets(t, g, twice, 2, true)
	meets(t, g, api.Desc{Key: blob.Key, Size: 4}, 0, false)
	meets(t, g, api.Desc{Key: gone.Key, Size: 3}, 0, false)
	wholes(t, g, true, true, true, false, false)
	degrees(t, g, 1, 3, 0, 0, 0, 0, 0, 0, 0, 0)
	reaches(t, g, 2, 0, 1, 2)
	if l := g.Reached(3, 0); !slices.Equal(l, []int{0, 1, 3}) {
		t.Error(l)
	}
	if len(g.Reached(4, 9)) != 0 || len(g.Reached()) != 0 || len(g.Missing()) != 0 {
		t.Error(g.Reached(4, 9), g.Reached(), g.Missing())
	}
	misses(t, g, 3, gone)
	misses(t, g, 2)
	if l := g.Missing(3, 3); !slices.Equal(l, []api.Digest{gone.Key}) {
		t.Errorf("%x", l)
	}
}

// P20.1, P1: a nil store has no graph, and a nil graph answers zero values.
func TestNil(t *testing.T) {
	if graph.Of(nil) != nil || graph.Of(store.Of(nil)) != nil {
		t.Error("a graph of no store")
	}
	var g *graph.Graph
	for _, slot := range around(130) {
		nobody(t, g, slot)
	}
	for _, d := range []api.Desc{{}, {Size: 3}, {Key: sha256.Sum256(nil)}, nowhere(7)} {
		meets(t, g, d, 0, false)
	}
	if len(g.Reached()) != 0 || len(g.Missing()) != 0 || len(g.Reached(around(9)...)) != 0 || len(g.Missing(around(9)...)) != 0 {
		t.Error("reached from nowhere")
	}
}

// P20.1 to P20.6: disks of zeros, and of noise all over: nobody is there.
func TestZerosAndNoise(t *testing.T) {
	r := rand.New(rand.NewSource(1))
	for _, n := range sizes() {
		l := make([]api.Sector, n)
		for range 2 {
			g := check(t, l)
			for _, slot := range around(slotsOf(n)) {
				nobody(t, g, slot)
			}
			meets(t, g, api.Desc{}, 0, false)
			for i := range l {
				r.Read(l[i][:])
			}
		}
	}
}

// P20.2 to P20.6: a document and its blob in each two slots of each disk.
func TestEachTwoSlots(t *testing.T) {
	for _, n := range []int{64, 65, 481, 1024} {
		for slot := range slotsOf(n) {
			for _, step := range []int{1, 2, slotsOf(n) / 2, slotsOf(n) - 1} {
				other := (slot + step) % slotsOf(n)
				d := empty(n)
				page := d.doc(slot, api.Manifest, d.blob(other, "abc"), nowhere(2))
				g := graph.Of(storeOf(t, d.l))
				meets(t, g, page, slot, true)
				reaches(t, g, slot, each([]int{slot, other})...)
				reaches(t, g, other, other)
				misses(t, g, slot, nowhere(2))
				if g.Degree(other) != 1 || g.Degree(slot) != 0 || g.Whole(slot) || !g.Whole(other) || g.Kind(slot) != api.Manifest || g.Kind(other) != api.Plain || len(g.Names(slot)) != 2 {
					t.Fatalf("%d sectors, slots %d, %d", n, slot, other)
				}
			}
		}
	}
}

// P20.2 to P20.6: free, torn, kept and lost slots are nobody, also where they hold documents that name who is there.
func TestSlotsThatAreNobody(t *testing.T) {
	d := empty(256)
	blob := d.blob(0, "abc")
	page := d.doc(1, api.Manifest, blob)
	d.tear(2)
	d.doc(3, api.Index, page, blob)
	d.tear(3)
	d.put(4, api.Live, text(api.Index, page, blob), nowhere(4).Key)        // kept, and corrupt
	d.put(5, api.Quarantined, text(api.Index, blob, page, blob), page.Key) // kept
	quiet := text(api.Manifest, blob, nowhere(6))
	d.put(6, api.Quarantined, quiet, sha256.Sum256([]byte(quiet))) // kept, with its right key
	d.doc(7, api.Manifest, blob)                                   // lost: the same as slot 1's
	d.blob(8, "abc")                                               // lost: the same as slot 0's
	at := d.next
	d.blob(9, "ab")
	d.next = at
	d.blob(10, "a") // lost: its sector is slot 9's
	s := storeOf(t, d.l)
	for slot, want := range []int{store.Good, store.Good, store.Lost, store.Lost, store.Kept, store.Kept, store.Kept, store.Lost, store.Lost, store.Good, store.Lost, store.None} {
		if got := s.State(slot); got != want {
			t.Fatalf("slot %d: %d, want %d", slot, got, want)
		}
	}
	g := check(t, d.l)
	for _, slot := range []int{-1, 2, 3, 4, 5, 6, 7, 8, 10, 11, 31, 32, 1 << 40} {
		nobody(t, g, slot)
	}
	meets(t, g, api.Desc{Key: nowhere(4).Key, Size: len(text(api.Index, page, blob))}, 0, false)
	meets(t, g, api.Desc{Key: sha256.Sum256([]byte(quiet)), Size: len(quiet)}, 0, false)
	meets(t, g, page, 1, true)
	degrees(t, g, 1, 0)
	if l := g.Reached(8, 7, 6, 5, 4, 3, 2, 1); !slices.Equal(l, []int{0, 1}) {
		t.Error(l)
	}
}

// P20.2 to P20.6: the sectors of one that is lost are another's: the lower slot is somebody.
func TestOverlappingDocuments(t *testing.T) {
	d := empty(128)
	blob := d.blob(5, "abc")
	at := d.next
	long := text(api.Index, blob, blob) + " "
	d.blob(1, long)
	d.next = at
	short := api.Desc{Key: sha256.Sum256([]byte(long[:len(long)-1])), Size: len(long) - 1}
	d.blob(2, long[:len(long)-1]) // the same bytes but for the last one
	d.doc(3, api.Manifest, short)
	g := check(t, d.l)
	nobody(t, g, 2)
	meets(t, g, short, 0, false)
	meets(t, g, api.Desc{Key: sha256.Sum256([]byte(long)), Size: len(long)}, 1, true)
	misses(t, g, 3, short)
	if g.Degree(5) != 2 || g.Whole(3) || !g.Whole(1) {
		t.Error(g.Degree(5), g.Whole(3), g.Whole(1))
	}
}

// nearly is texts that are nearly documents, of a descriptor that meets.
func nearly(d api.Desc) []string {
	good := text(api.Index, d)
	var many []api.Desc
	for range 33 {
		many = append(many, d)
	}
	return []string{
		good + "x", good[1:], good[:len(good)-1], "[" + good + "]",
		strings.Replace(good, ":2", ":1", 1), strings.Replace(good, ":2", `:"2"`, 1), strings.Replace(good, "sha256", "sha512", 1),
		strings.Replace(good, `"size":`, `"size":-`, 1), strings.Replace(good, `"size"`, `"Size"`, 1), strings.Replace(good, "manifests", "manifest", 1),
		strings.Replace(good, `{"schema`, `{"layers":[],"schema`, 1), strings.Replace(good, "}]", "},null]", 1), text(api.Index, many...),
		`{"schemaVersion":2,"layers":[]}`, `{"schemaVersion":2}`, "{}", "[]", "null", "2", `""`, " ",
	}
}

// P20.2, P20.5: what is nearly a document is plain: there, whole, and naming nobody.
func TestNearlyDocuments(t *testing.T) {
	for _, n := range []int{128, 481, 1024} {
		for _, b := range nearly(api.Desc{Key: sha256.Sum256([]byte("abc")), Size: 3}) {
			d := empty(n)
			if len(b) > d.room()-256 {
				continue
			}
			blob := d.blob(2, "abc")
			near := d.blob(1, b)
			d.doc(0, api.Manifest, near)
			g := check(t, d.l)
			kinds(t, g, api.Manifest, api.Plain, api.Plain)
			wholes(t, g, true, true, true)
			degrees(t, g, 0, 1, 0)
			reaches(t, g, 0, 0, 1)
			meets(t, g, near, 1, true)
			meets(t, g, blob, 2, true)
		}
	}
}

// P20.2 to P20.6: blobs of no bytes and of 4096, plain and not.
func TestLengths(t *testing.T) {
	d := empty(1024)
	none := d.blob(3, "")
	full := d.blob(4, strings.Repeat("x", 4096))
	page := text(api.Manifest, none, full, none)
	long := d.blob(7, page+strings.Repeat(" ", 4096-len(page)))
	first := d.blob(6, strings.Repeat("\n", 4096-len(page))+page)
	d.doc(5, api.Index, first, long)
	g := check(t, d.l)
	if long.Size != 4096 || g.Kind(7) != api.Manifest || g.Kind(6) != api.Manifest || !slices.Equal(g.Names(7), []api.Desc{none, full, none}) {
		t.Error(long.Size, g.Kind(7), g.Kind(6), g.Names(7))
	}
	meets(t, g, none, 3, true)
	meets(t, g, api.Desc{Key: sha256.Sum256(nil)}, 3, true)
	meets(t, g, full, 4, true)
	meets(t, g, long, 7, true)
	wholes(t, g, false, false, false, true, true, true, true, true)
	degrees(t, g, 0, 0, 0, 4, 2, 0, 1, 1)
	reaches(t, g, 5, 3, 4, 5, 6, 7)
	kinds(t, g, api.Plain, api.Plain, api.Plain, api.Plain, api.Plain, api.Index)
}

// P20.1 to P20.6: behind a committed mark the batch is what slots and documents are; behind one that is rubbish it isn't.
func TestBehindTheReplay(t *testing.T) {
	d := empty(128)
	blob := d.blob(0, "abc")
	at := d.next
	page := d.doc(1, api.Manifest, blob)
	other := d.doc(9, api.Index, blob, blob)
	d.doc(2, api.Index, page, other, page)
	d.l[3] = d.l[d.dir()+9] // the entry of slot 9 comes to slot 4
	d.l[4] = api.Sector{}
	d.l[5] = d.l[at] // what slot 1 needs to be good
	d.l[at] = api.Sector{1}
	d.commit(d.dir()+4, d.dir()+9, at)
	g := check(t, d.l)
	kinds(t, g, api.Plain, api.Manifest, api.Index, api.Plain, api.Index)
	wholes(t, g, true, true, true, false, true)
	degrees(t, g, 3, 2, 0, 0, 1)
	reaches(t, g, 2, 0, 1, 2, 4)
	meets(t, g, other, 4, true)
	nobody(t, g, 9)
	d.l[2][62] ^= 1
	g = check(t, d.l)
	kinds(t, g, api.Plain, api.Plain, api.Index, api.Plain, api.Plain, api.Plain, api.Plain, api.Plain, api.Plain, api.Index)
	meets(t, g, other, 9, true)
	misses(t, g, 2, page)
	nobody(t, g, 4)
	nobody(t, g, 1)
}

// P20.1: a graph is of the store that it was made of, whatever becomes of the image's sectors.
func TestOfThatStore(t *testing.T) {
	d := empty(64)
	blob := d.blob(0, "abc")
	im, _ := image.Of(d.l)
	g := graph.Of(store.Of(im))
	d.blob(0, "abd")
	other := graph.Of(storeOf(t, d.l))
	meets(t, g, blob, 0, true)
	meets(t, other, blob, 0, false)
}
