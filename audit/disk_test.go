package audit_test

import (
	"crypto/sha256"
	"encoding/binary"
	"fmt"
	"slices"
	"testing"

	"assay/api"
	"assay/audit"
	"assay/crc"
	"assay/geom"
	"assay/image"
	"assay/manifest"
	"assay/mark"
	"assay/slot"
	"assay/table"
)

// disk is sectors into which a store is laid by hand.
type disk struct {
	t    *testing.T
	l    []api.Sector
	g    geom.Geom
	next int // the first data sector behind what was laid last
}

// zeros is a disk of n sectors, all zeros.
func zeros(t *testing.T, n int) *disk {
	g, e := geom.Of(n)
	if e != api.OK {
		t.Fatal(n, e)
	}
	return &disk{t: t, l: make([]api.Sector, n), g: g, next: g.Data}
}

// emptyStore is a disk of n sectors that is laid as an empty store.
func emptyStore(t *testing.T, n int) *disk { return zeros(t, n).settle() }

// sizes is the least size, the greatest one, and some between them: there the bitmap, the directory, tags and counts become more.
func sizes() []int {
	return []int{64, 71, 72, 80, 120, 127, 128, 240, 256, 360, 479, 480, 481, 500, 720, 959, 960, 961, 1000, 1023, 1024}
}

// few is the least size, the greatest one, and one between.
func few() []int { return []int{64, 481, 1024} }

// image is the image of a disk.
func (d *disk) image() *image.Image { return imageOf(d.t, d.l) }

// imageOf is the image of sectors that are a disk.
func imageOf(t *testing.T, l []api.Sector) *image.Image {
	t.Helper()
	im, e := image.Of(l)
	if e != api.OK {
		t.Fatalf("%d sectors: %d", len(l), e)
	}
	return im
}

// settle lays superblocks, bitmap and counts as they will be, and an empty mark. Entries, tags and snapshots stay.
func (d *disk) settle() *disk {
	laid := read(d.image()).laid()
	copy(d.l, laid[:3])
	copy(d.l[d.g.Bitmap:], laid[d.g.Bitmap:d.g.Dir])
	copy(d.l[d.g.Count:], laid[d.g.Count:d.g.Data])
	return d
}

// mend lays all of the store as it will be.
func (d *disk) mend() *disk {
	copy(d.l, read(d.image()).laid())
	return d
}

// entry lays an entry, and no bytes.
func (d *disk) entry(at int, e api.Entry) {
	d.t.Helper()
	s, bad := slot.Put(e, len(d.l))
	if bad != api.OK {
		d.t.Fatalf("slot %d: %v: %d", at, e, bad)
	}
	d.l[d.g.Dir+at] = s
}

// put lays an entry from the next data sector on, and its bytes.
func (d *disk) put(at, state int, b string, key api.Digest) api.Desc {
	d.t.Helper()
	e := api.Entry{State: state, Start: d.next, Length: len(b), Key: key}
	if len(b) == 0 {
		e.Start = 0
	}
	d.entry(at, e)
	for i := range b {
		d.l[d.next+i/64][i%64] = b[i]
	}
	d.next += (len(b) + 63) / 64
	return api.Desc{Key: key, Size: len(b)}
}

// room is how many bytes there is room for still.
func (d *disk) room() int { return min(64*(len(d.l)-d.next), api.MaxBlob) }

// keyOf is the key of some bytes.
func keyOf(b string) api.Digest { return sha256.Sum256([]byte(b)) }

// nowhere is the key of a blob that is laid on no disk.
func nowhere(i int) api.Digest { return keyOf(fmt.Sprint("nowhere", i)) }

// blob lays a live entry with the right key.
func (d *disk) blob(at int, b string) api.Desc {
	d.t.Helper()
	return d.put(at, api.Live, b, keyOf(b))
}

// corrupt lays a live entry with a wrong key.
func (d *disk) corrupt(at int, b string) api.Desc {
	d.t.Helper()
	return d.put(at, api.Live, b, nowhere(at))
}

// quarantine lays a quarantined entry with a wrong key.
func (d *disk) quarantine(at int, b string) api.Desc {
	d.t.Helper()
	return d.put(at, api.Quarantined, b, nowhere(at))
}

// doc lays a document.
func (d *disk) doc(at, kind int, named ...api.Desc) api.Desc {
	d.t.Helper()
	b, e := manifest.Write(kind, named)
	if e != api.OK {
		d.t.Fatal(kind, named, e)
	}
	return d.blob(at, string(b))
}

// tag lays a tag.
func (d *disk) tag(at int, name string, key api.Digest) {
	d.t.Helper()
	s, e := table.PutTag(api.Tag{Name: name, Key: key})
	if e != api.OK {
		d.t.Fatal(name, e)
	}
	d.l[d.g.Tag+at] = s
}

// snap lays a snapshot.
func (d *disk) snap(at int, id, parent uint32, layer api.Digest) {
	d.t.Helper()
	s, e := table.PutSnap(api.Snap{ID: id, Parent: parent, Layer: layer})
	if e != api.OK {
		d.t.Fatal(id, e)
	}
	d.l[d.g.Snap+at] = s
}

// turn turns the bits of some sectors, and lets the bitmap have its sum.
func (d *disk) turn(sectors ...int) {
	for _, at := range sectors {
		s := &d.l[d.g.Bitmap+at/480]
		s[at%480/8] ^= 1 << (at % 8)
		*s = crc.Seal(*s)
	}
}

// count lets a slot have a count, and its sector the sum.
func (d *disk) count(at int, v uint32) {
	s := &d.l[d.g.Count+at/15]
	binary.LittleEndian.PutUint32(s[at%15*4:], v)
	*s = crc.Seal(*s)
}

// tear turns a bit of a sector.
func (d *disk) tear(at int) { d.l[at][9] ^= 0x20 }

// tearOneByOne tears the sectors of a table of an empty store, each by itself, one behind the other, and all.
func tearOneByOne(t *testing.T, n, kind int, table func(geom.Geom) (first, many int)) {
	t.Helper()
	d, alone := emptyStore(t, n), emptyStore(t, n)
	first, many := table(d.g)
	var all []api.Finding
	for at := range many {
		alone.tear(first + at)
		if got := found(t, alone.image(), 1+at%8); !slices.Equal(got, []api.Finding{f(kind, at)}) {
			t.Fatalf("%d sectors, %d alone: %v", n, at, got)
		}
		alone.tear(first + at) // the bit is turned back
		d.tear(first + at)
		all = append(all, f(kind, at))
		if got := found(t, d.image(), 1+at%8); !slices.Equal(got, all) {
			t.Fatalf("%d sectors, up to %d: %v", n, at, got)
		}
	}
	d.finds(all...)
}

// commit lays a mark that is committed, with these writes in the journal.
func (d *disk) commit(l ...api.Write) {
	d.t.Helper()
	s, e := mark.Put(l, len(d.l))
	if e != api.OK {
		d.t.Fatal(l, e)
	}
	d.l[2] = s
	for i, w := range l {
		d.l[3+i] = w.Data
	}
}

// f is a finding.
func f(kind, at int) api.Finding { return api.Finding{Kind: kind, At: at} }

// kinds is all kinds of findings.
func kinds() []int {
	var l []int
	for kind := 1; kind <= 19; kind++ {
		l = append(l, kind)
	}
	return l
}

// finds holds what is found on a disk against what is asked, and against all that check asks.
func (d *disk) finds(want ...api.Finding) {
	d.t.Helper()
	if got := check(d.t, d.l); !slices.Equal(got, want) {
		d.t.Fatalf("%d sectors: %v, want %v", len(d.l), got, want)
	}
}

// found is what Findings answers of an image.
func found(t *testing.T, im *image.Image, workers int) []api.Finding {
	t.Helper()
	l, e := audit.Findings(im, workers)
	if e != api.OK {
		t.Fatalf("%d workers: %d", workers, e)
	}
	return l
}

// parts is what Parts answers of an image.
func parts(t *testing.T, im *image.Image, workers int, kinds ...int) []api.Finding {
	t.Helper()
	l, e := audit.Parts(im, workers, kinds...)
	if e != api.OK {
		t.Fatalf("%d workers, %v: %d", workers, kinds, e)
	}
	return l
}

// check holds what is found on a disk, by each number of workers, against the second reading and P23.4, and answers it.
func check(t *testing.T, l []api.Sector) []api.Finding {
	t.Helper()
	im := imageOf(t, l)
	r := read(im)
	want := r.findings()
	for workers := 1; workers <= 8; workers++ {
		if got := found(t, im, workers); !slices.Equal(got, want) {
			t.Fatalf("%d sectors, %d workers: %v, want %v", len(l), workers, got, want)
		}
	}
	checkParts(t, im, want)
	checkLaid(t, l, r, want)
	checkEachSlot(t, want)
	return want
}

// checkParts: what is found is the parts of all kinds, and of each kind its own.
func checkParts(t *testing.T, im *image.Image, all []api.Finding) {
	t.Helper()
	if got := parts(t, im, 3, kinds()...); !slices.Equal(got, all) {
		t.Fatalf("of all kinds: %v, want %v", got, all)
	}
	for _, kind := range kinds() {
		if got := parts(t, im, 2, kind); !slices.Equal(got, only(all, kind)) {
			t.Fatalf("of the kind %d: %v, want %v", kind, got, only(all, kind))
		}
	}
}

// only is the findings of some kinds.
func only(l []api.Finding, kinds ...int) []api.Finding {
	return slices.DeleteFunc(slices.Clone(l), func(f api.Finding) bool { return !slices.Contains(kinds, f.Kind) })
}

// checkLaid: nothing is found just if the disk is the store as it will be, and where that is laid nothing is.
func checkLaid(t *testing.T, l []api.Sector, r *reading, all []api.Finding) {
	t.Helper()
	laid := r.laid()
	if is := slices.Equal(l, laid); is != (len(all) == 0) {
		t.Fatalf("%d sectors, laid as they will be %v: %v", len(l), is, all)
	}
	for _, workers := range []int{1, 8} {
		if got := found(t, imageOf(t, laid), workers); len(got) > 0 {
			t.Fatalf("%d sectors, laid behind %v: %v", len(l), all, got)
		}
	}
}

// checkEachSlot: which findings may stand beside each other at one slot.
func checkEachSlot(t *testing.T, all []api.Finding) {
	t.Helper()
	at := map[int][]int{} // by slot of the directory
	tags, snaps, parents := map[int]int{}, map[int]int{}, map[int]int{}
	for _, f := range all {
		switch f.Kind {
		case 5, 6, 7, 8, 9:
			at[f.At] = append(at[f.At], f.Kind)
		case 10, 11, 12:
			tags[f.At]++
		case 13, 14, 15:
			snaps[f.At]++
		case 16, 17:
			parents[f.At]++
		}
	}
	for slot, l := range at {
		if len(l) > 1 && !slices.Equal(l, []int{7, 8}) && !slices.Equal(l, []int{8, 9}) {
			t.Fatalf("slot %d: %v", slot, l)
		}
	}
	for slot := range 1024 {
		if tags[slot] > 1 || snaps[slot]+parents[slot] > 1 {
			t.Fatalf("slot %d: %v", slot, all)
		}
	}
}

// target lets the mark have one target more, whatever it is, with all of its sums.
func (d *disk) target(i, at int) {
	s := api.Sector{0x4A, 0x4D, byte(i + 1)}
	copy(s[4:], d.l[2][4:4+2*i])
	binary.LittleEndian.PutUint16(s[4+2*i:], uint16(at))
	var batch []byte
	for _, x := range d.l[3 : 4+i] {
		batch = append(batch, x[:]...)
	}
	binary.LittleEndian.PutUint32(s[20:], crc.Sum(batch))
	d.l[2] = crc.Seal(s)
}
