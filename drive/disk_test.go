package drive_test

import (
	"crypto/sha256"
	"encoding/binary"
	"fmt"
	"math/rand"
	"slices"
	"testing"

	"assay/api"
	"assay/manifest"
)

// disk is sectors into which a store is laid by hand.
type disk struct {
	t *testing.T
	places
	l    []api.Sector
	next int // the first data sector behind what was laid last
}

// zeros is a disk of n sectors, all zeros.
func zeros(t *testing.T, n int) *disk {
	p := placesOf(n)
	return &disk{t: t, places: p, l: make([]api.Sector, n), next: p.data}
}

// emptyStore is a disk of n sectors that is laid as an empty store.
func emptyStore(t *testing.T, n int) *disk { return zeros(t, n).settle() }

// sizes is the least size, the greatest one, and some between them: there the bitmap, the directory, tags, counts and the quarantine become more.
func sizes() []int {
	return []int{64, 71, 72, 80, 96, 120, 127, 128, 240, 256, 360, 479, 480, 481, 500, 720, 959, 960, 961, 1000, 1023, 1024}
}

// few is the least size, the greatest one, and one between.
func few() []int { return []int{64, 481, 1024} }

// copy is the same disk once more.
func (d *disk) copy() *disk {
	c := *d
	c.l = slices.Clone(d.l)
	return &c
}

// settle lays superblocks, bitmap and counts as they will be, and an empty mark. Entries, tags and snapshots stay.
func (d *disk) settle() *disk {
	d.l[2] = api.Sector{}
	will := read(d.l).will()
	copy(d.l, will[:2])
	copy(d.l[d.bitmap:], will[d.bitmap:d.dir])
	copy(d.l[d.count:], will[d.count:d.data])
	return d
}

// mend lays all of the store as it will be.
func (d *disk) mend() *disk {
	copy(d.l, read(d.l).will())
	return d
}

// entry lays an entry, and no bytes.
func (d *disk) entry(at, state, start, length int, key api.Digest) {
	d.t.Helper()
	e := api.Entry{State: state, Start: start, Length: length, Key: key}
	d.l[d.dir+at] = entryOf(e)
	if _, right := d.places.entry(d.l[d.dir+at]); !right {
		d.t.Fatalf("%d sectors, slot %d: %v", d.n, at, e)
	}
}

// put lays an entry from the next data sector on, and its bytes.
func (d *disk) put(at, state int, b string, key api.Digest) api.Desc {
	d.t.Helper()
	start := d.next
	if len(b) == 0 {
		start = 0
	}
	d.entry(at, state, start, len(b), key)
	for i := range b {
		d.l[d.next+i/64][i%64] = b[i]
	}
	d.next += (len(b) + 63) / 64
	return api.Desc{Key: key, Size: len(b)}
}

// spare is how many bytes there is room for still.
func (d *disk) spare() int { return min(64*(d.n-d.next), api.MaxBlob) }

// lying lays a live entry with the key of the bytes that lie there.
func (d *disk) lying(at, start, length int) {
	d.t.Helper()
	var b []byte
	for i := range (length + 63) / 64 {
		b = append(b, d.l[start+i][:]...)
	}
	d.entry(at, api.Live, start, length, keyOf(string(b[:length])))
}

// keyOf is the key of some bytes.
func keyOf(b string) api.Digest { return sha256.Sum256([]byte(b)) }

// nowhere is the key of a blob that is laid on no disk.
func nowhere(i int) api.Digest { return keyOf(fmt.Sprint("nowhere", i)) }

// gone is the descriptor of a blob that is laid on no disk.
func gone(i int) api.Desc { return api.Desc{Key: nowhere(i), Size: i} }

// blob lays a live entry with the right key.
func (d *disk) blob(at int, b string) api.Desc {
	d.t.Helper()
	return d.put(at, api.Live, b, keyOf(b))
}

// corrupt lays a live entry with a wrong key.
func (d *disk) corrupt(at int, b string) api.Desc {
	d.t.Helper()
	return d.put(at, api.Live, b, nowhere(at))
}

// quarantine lays a quarantined entry with the right key.
func (d *disk) quarantine(at int, b string) api.Desc {
	d.t.Helper()
	return d.put(at, api.Quarantined, b, keyOf(b))
}

// page is a document's bytes.
func page(t *testing.T, kind int, named ...api.Desc) string {
	t.Helper()
	b, e := manifest.Write(kind, named)
	if e != api.OK {
		t.Fatal(kind, named, e)
	}
	return string(b)
}

// doc lays a document.
func (d *disk) doc(at, kind int, named ...api.Desc) api.Desc {
	d.t.Helper()
	return d.blob(at, page(d.t, kind, named...))
}

// pin lays a tag.
func (d *disk) pin(at int, name string, key api.Digest) {
	d.l[d.tag+at] = tagOf(api.Tag{Name: name, Key: key})
}

// shot lays a snapshot.
func (d *disk) shot(at int, id, parent uint32, layer api.Digest) {
	d.l[d.snap+at] = snapOf(api.Snap{ID: id, Parent: parent, Layer: layer})
}

// tear turns a bit of a sector.
func (d *disk) tear(at int) { d.l[at][9] ^= 0x20 }

// turn turns the bits of some sectors, and lets the bitmap have its sum.
func (d *disk) turn(sectors ...int) {
	for _, at := range sectors {
		s := &d.l[d.bitmap+at/480]
		s[at%480/8] ^= 1 << (at % 8)
		*s = summed(*s)
	}
}

// counted lets a slot have a count, and its sector the sum.
func (d *disk) counted(at int, v uint32) {
	s := &d.l[d.count+at/15]
	binary.LittleEndian.PutUint32(s[at%15*4:], v)
	*s = summed(*s)
}

// commit lays a mark that is committed, with these writes in the journal.
func (d *disk) commit(l ...api.Write) {
	d.t.Helper()
	d.l[2] = markOf(l)
	for i, w := range l {
		d.l[3+i] = w.Data
	}
	if state, _ := markIn(d.l); state != committed {
		d.t.Fatal("no batch", l)
	}
}

// noise fills some sectors with any bytes.
func noise(r *rand.Rand, l []api.Sector) {
	for i := range l {
		r.Read(l[i][:])
	}
}

// family is a disk on which nothing is wrong: blobs, documents, quarantined entries, tags and snapshots. It needs all of a disk of 64 sectors.
func family(t *testing.T, n int) *disk {
	d := zeros(t, n)
	b := d.blob(0, "abc")
	one := d.doc(1, api.Manifest, b, b)
	two := d.doc(3, api.Index, one, one)
	d.blob(4, "")
	d.quarantine(5, "quarantined")
	d.put(7, api.Quarantined, "", nowhere(7))
	d.pin(0, "v1", two.Key)
	d.pin(2, "v2", b.Key)
	d.pin(3, "v3", two.Key)
	d.shot(0, 5, 7, b.Key)
	d.shot(1, 7, 0, one.Key)
	d.shot(3, 9, 7, b.Key)
	return d.settle()
}

// wreck is a disk of 128 sectors on which all kinds of things are wrong.
func wreck(t *testing.T) *disk {
	d := zeros(t, 128)
	abc := d.blob(0, "abc")
	d.blob(1, "abc")                                              // FSame
	d.lying(2, d.next-1, 1)                                       // good, since slot 1 is lost
	d.lying(3, d.next-1, 2)                                       // FOver
	d.corrupt(4, "wrong")                                         // FCorrupt
	d.entry(5, api.Quarantined, d.next-1, 2, abc.Key)             // FOver
	half := d.doc(6, api.Manifest, abc, gone(1), abc)             // lacks something
	idx := d.doc(7, api.Index, half, half, gone(2))               // so does this
	wide := d.doc(8, api.Index, api.Desc{Key: abc.Key, Size: 99}) // meets nothing
	d.l[d.dir+9] = api.Sector{7}                                  // FSlot
	d.put(10, api.Live, "", nowhere(3))                           // FCorrupt
	d.put(11, api.Quarantined, "", nowhere(3))
	d.corrupt(12, "w")                         // FCorrupt
	d.quarantine(13, "one too many")           // FCrowd
	d.put(14, api.Live, "and so", nowhere(14)) // FCorrupt, FCrowd
	d.pin(0, "v1", idx.Key)                    // FDangling
	d.pin(1, "v1", abc.Key)
	d.pin(2, "v1", abc.Key)       // FTagTwice
	d.pin(3, "", abc.Key)         // FTag
	d.pin(4, "gone", gone(7).Key) // FDangling
	d.pin(5, "wide", wide.Key)    // FDangling
	d.pin(6, "v2", abc.Key)
	d.shot(0, 9, 4, abc.Key)
	d.shot(1, 4, 9, abc.Key)     // FCycle
	d.shot(2, 4, 0, half.Key)    // FSnapID
	d.shot(3, 6, 5, abc.Key)     // FParent
	d.shot(4, 5, 0, gone(1).Key) // FLayer
	d.shot(5, 0, 9, abc.Key)     // FSnap
	d.shot(6, 7, 7, abc.Key)     // FCycle
	d.shot(7, 2, 4, wide.Key)
	d.settle()
	d.turn(3, 90, 127) // FBit
	d.counted(0, 9)    // FCount
	d.tear(d.count + 1)
	d.tear(1)
	return d
}
