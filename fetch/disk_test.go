package fetch_test

import (
	"crypto/sha256"
	"encoding/binary"
	"fmt"
	"math/rand"
	"slices"
	"testing"

	"assay/api"
	"assay/crc"
	"assay/geom"
	"assay/image"
	"assay/manifest"
	"assay/mark"
	"assay/slot"
	"assay/super"
	"assay/table"
)

// disk is sectors into which a store is laid by hand.
type disk struct {
	t    *testing.T
	l    []api.Sector
	g    geom.Geom
	next int // the first data sector behind what was laid last
}

// zeros is a disk of n sectors, all zeros.
func zeros(t *testing.T, n int) *disk {
	g, e := geom.Of(n)
	if e != api.OK {
		t.Fatal(n, e)
	}
	return &disk{t: t, l: make([]api.Sector, n), g: g, next: g.Data}
}

// sizes is the least size, the greatest one, and some between them: there the bitmap, the directory, tags, counts and the quarantine become more.
func sizes() []int {
	return []int{64, 71, 72, 80, 96, 120, 127, 128, 240, 256, 360, 479, 480, 481, 500, 720, 959, 960, 961, 1000, 1023, 1024}
}

// few is the least size, the greatest one, and one between.
func few() []int { return []int{64, 481, 1024} }

// imageOf is the image of sectors that are a disk.
func imageOf(t *testing.T, l []api.Sector) *image.Image {
	t.Helper()
	im, e := image.Of(l)
	if e != api.OK {
		t.Fatalf("%d sectors: %d", len(l), e)
	}
	return im
}

// image is the disk's image.
func (d *disk) image() *image.Image {
	d.t.Helper()
	return imageOf(d.t, d.l)
}

// copy is the same disk once more.
func (d *disk) copy() *disk {
	c := *d
	c.l = slices.Clone(d.l)
	return &c
}

// entry lays an entry, and no bytes.
func (d *disk) entry(at, state, start, length int, key api.Digest) {
	d.t.Helper()
	s, e := slot.Put(api.Entry{State: state, Start: start, Length: length, Key: key}, len(d.l))
	if e != api.OK {
		d.t.Fatalf("slot %d: %d bytes from %d on: %d", at, length, start, e)
	}
	d.l[d.g.Dir+at] = s
}

// put lays an entry from the next data sector on, and its bytes.
func (d *disk) put(at, state int, b string, key api.Digest) api.Desc {
	d.t.Helper()
	start := d.next
	if len(b) == 0 {
		start = 0
	}
	d.entry(at, state, start, len(b), key)
	for i := range b {
		d.l[d.next+i/64][i%64] = b[i]
	}
	d.next += (len(b) + 63) / 64
	return api.Desc{Key: key, Size: len(b)}
}

// room is how many bytes there is room for still.
func (d *disk) room() int { return min(64*(len(d.l)-d.next), api.MaxBlob) }

// lying lays a live entry with the key of the bytes that lie there.
func (d *disk) lying(at, start, length int) {
	d.t.Helper()
	d.entry(at, api.Live, start, length, api.Digest{})
	e, _ := d.image().Entry(at)
	d.entry(at, api.Live, start, length, keyOf(string(d.image().Bytes(e))))
}

// keyOf is the key of some bytes.
func keyOf(b string) api.Digest { return sha256.Sum256([]byte(b)) }

// nowhere is the key of a blob that is laid on no disk.
func nowhere(i int) api.Digest { return keyOf(fmt.Sprint("nowhere", i)) }

// gone is the descriptor of a blob that is laid on no disk.
func gone(i int) api.Desc { return api.Desc{Key: nowhere(i), Size: i} }

// blob lays a live entry with the right key.
func (d *disk) blob(at int, b string) api.Desc {
	d.t.Helper()
	return d.put(at, api.Live, b, keyOf(b))
}

// corrupt lays a live entry of which a byte is another than when its key was made.
func (d *disk) corrupt(at int, b string) api.Desc {
	d.t.Helper()
	x := d.blob(at, b)
	e, _ := d.image().Entry(at)
	d.l[e.Start][0] ^= 1
	return x
}

// quarantine lays a quarantined entry with the right key.
func (d *disk) quarantine(at int, b string) api.Desc {
	d.t.Helper()
	return d.put(at, api.Quarantined, b, keyOf(b))
}

// free lets a slot of the directory be free.
func (d *disk) free(at int) { d.l[d.g.Dir+at] = api.Sector{} }

// page is a document's bytes.
func page(t *testing.T, kind int, named ...api.Desc) string {
	t.Helper()
	b, e := manifest.Write(kind, named)
	if e != api.OK {
		t.Fatal(kind, named, e)
	}
	return string(b)
}

// doc lays a document.
func (d *disk) doc(at, kind int, named ...api.Desc) api.Desc {
	d.t.Helper()
	return d.blob(at, page(d.t, kind, named...))
}

// tag lays a tag.
func (d *disk) tag(at int, name string, key api.Digest) {
	d.t.Helper()
	s, e := table.PutTag(api.Tag{Name: name, Key: key})
	if e != api.OK {
		d.t.Fatal(name, e)
	}
	d.l[d.g.Tag+at] = s
}

// supers lays two superblocks.
func (d *disk) supers(n int) {
	d.t.Helper()
	s, e := super.Put(n)
	if e != api.OK {
		d.t.Fatal(n, e)
	}
	d.l[0], d.l[1] = s, s
}

// tear turns a bit of a sector.
func (d *disk) tear(at int) { d.l[at][9] ^= 0x20 }

// commit lays a mark that is committed, with these writes in the journal.
func (d *disk) commit(l ...api.Write) {
	d.t.Helper()
	s, e := mark.Put(l, len(d.l))
	if e != api.OK {
		d.t.Fatal(l, e)
	}
	d.l[2] = s
	for i, w := range l {
		d.l[3+i] = w.Data
	}
}

// target lets the mark have these targets, whatever they are, with all of its sums.
func (d *disk) target(targets ...int) {
	s := api.Sector{0x4A, 0x4D, byte(len(targets))}
	var batch []byte
	for i, at := range targets {
		binary.LittleEndian.PutUint16(s[4+2*i:], uint16(at))
		batch = append(batch, d.l[3+i][:]...)
	}
	binary.LittleEndian.PutUint32(s[20:], crc.Sum(batch))
	d.l[2] = crc.Seal(s)
}

// family is a disk with tags that lack something and tags that don't: of documents, plain blobs, lost and quarantined ones; names that stand twice among them.
func family(t *testing.T, n int) *disk {
	d := zeros(t, n)
	b := d.blob(0, "abc")
	one := d.doc(1, api.Manifest, b, gone(1))
	two := d.doc(2, api.Index, one, gone(2), gone(1))
	fine := d.doc(3, api.Manifest, b)
	d.quarantine(4, "quarantined")
	d.tag(0, "v1", two.Key)
	d.tag(1, "v2", fine.Key)
	d.tag(2, "v1", one.Key)
	d.tag(3, "v3", d.doc(5, api.Manifest, gone(3), api.Desc{Key: keyOf("quarantined"), Size: 11}).Key)
	d.next++ // a data sector that is nobody's
	return d
}

// noise fills some sectors with any bytes.
func noise(r *rand.Rand, l []api.Sector) {
	for i := range l {
		r.Read(l[i][:])
	}
}
