package lay_test

import (
	"crypto/sha256"
	"encoding/binary"
	"fmt"
	"math/rand"
	"slices"
	"testing"

	"assay/api"
	"assay/crc"
	"assay/geom"
	"assay/image"
	"assay/manifest"
	"assay/mark"
	"assay/mend"
	"assay/slot"
	"assay/table"
)

// disk is sectors into which a store is laid by hand.
type disk struct {
	t    *testing.T
	l    []api.Sector
	g    geom.Geom
	next int // the first data sector behind what was laid last
}

// zeros is a disk of n sectors, all zeros.
func zeros(t *testing.T, n int) *disk {
	g, e := geom.Of(n)
	if e != api.OK {
		t.Fatal(n, e)
	}
	return &disk{t: t, l: make([]api.Sector, n), g: g, next: g.Data}
}

// sizes is the least size, the greatest one, and some between them: there the bitmap, the directory, tags, counts and the quarantine become more.
func sizes() []int {
	return []int{64, 71, 72, 80, 96, 120, 127, 128, 240, 256, 360, 479, 480, 481, 500, 720, 959, 960, 961, 1000, 1023, 1024}
}

// few is the least size, the greatest one, and one between.
func few() []int { return []int{64, 481, 1024} }

// imageOf is the image of sectors that are a disk.
func imageOf(t *testing.T, l []api.Sector) *image.Image {
	t.Helper()
	im, e := image.Of(l)
	if e != api.OK {
		t.Fatalf("%d sectors: %d", len(l), e)
	}
	return im
}

// mended is what mend makes of the disk.
func (d *disk) mended() *mend.Mended { return mend.Of(imageOf(d.t, d.l)) }

// differ is what Differ tells of the disk, behind all that check asks of it.
func (d *disk) differ() []api.Write {
	d.t.Helper()
	return check(d.t, d.l)
}

// repair makes the disk the one that it will be, by what the second reading says.
func (d *disk) repair() *disk {
	m := d.mended()
	d.l = m.Image().Sectors()
	copy(d.l, model(m))
	return d
}

// copy is the same disk once more.
func (d *disk) copy() *disk {
	c := *d
	c.l = slices.Clone(d.l)
	return &c
}

// at is the slot of one of eight that are spread over the directory; the last one is its last slot.
func (d *disk) at(i int) int {
	if i == 7 {
		return d.g.Slots - 1
	}
	return i * (d.g.Slots / 8)
}

// entry lays an entry, and no bytes.
func (d *disk) entry(at, state, start, length int, key api.Digest) {
	d.t.Helper()
	s, e := slot.Put(api.Entry{State: state, Start: start, Length: length, Key: key}, len(d.l))
	if e != api.OK {
		d.t.Fatalf("slot %d: %d bytes from %d on: %d", at, length, start, e)
	}
	d.l[d.g.Dir+at] = s
}

// put lays an entry from the next data sector on, and its bytes.
func (d *disk) put(at, state int, b string, key api.Digest) api.Desc {
	d.t.Helper()
	start := d.next
	if len(b) == 0 {
		start = 0
	}
	d.entry(at, state, start, len(b), key)
	for i := range b {
		d.l[d.next+i/64][i%64] = b[i]
	}
	d.next += (len(b) + 63) / 64
	return api.Desc{Key: key, Size: len(b)}
}

// room is how many bytes there is room for still.
func (d *disk) room() int { return min(64*(len(d.l)-d.next), api.MaxBlob) }

// lying lays a live entry with the key of the bytes that lie there.
func (d *disk) lying(at, start, length int) {
	d.t.Helper()
	d.entry(at, api.Live, start, length, api.Digest{})
	e, _ := imageOf(d.t, d.l).Entry(at)
	d.entry(at, api.Live, start, length, keyOf(string(imageOf(d.t, d.l).Bytes(e))))
}

// keyOf is the key of some bytes.
func keyOf(b string) api.Digest { return sha256.Sum256([]byte(b)) }

// nowhere is the key of a blob that is laid on no disk.
func nowhere(i int) api.Digest { return keyOf(fmt.Sprint("nowhere", i)) }

// blob lays a live entry with the right key.
func (d *disk) blob(at int, b string) api.Desc {
	d.t.Helper()
	return d.put(at, api.Live, b, keyOf(b))
}

// corrupt lays a live entry with a wrong key.
func (d *disk) corrupt(at int, b string) api.Desc {
	d.t.Helper()
	return d.put(at, api.Live, b, nowhere(at))
}

// quarantine lays a quarantined entry with the right key.
func (d *disk) quarantine(at int, b string) api.Desc {
	d.t.Helper()
	return d.put(at, api.Quarantined, b, keyOf(b))
}

// page is a document's bytes.
func page(t *testing.T, kind int, named ...api.Desc) string {
	t.Helper()
	b, e := manifest.Write(kind, named)
	if e != api.OK {
		t.Fatal(kind, named, e)
	}
	return string(b)
}

// doc lays a document.
func (d *disk) doc(at, kind int, named ...api.Desc) api.Desc {
	d.t.Helper()
	return d.blob(at, page(d.t, kind, named...))
}

// tag lays a tag.
func (d *disk) tag(at int, name string, key api.Digest) {
	d.t.Helper()
	s, e := table.PutTag(api.Tag{Name: name, Key: key})
	if e != api.OK {
		d.t.Fatal(name, e)
	}
	d.l[d.g.Tag+at] = s
}

// snap lays a snapshot.
func (d *disk) snap(at int, id, parent uint32, layer api.Digest) {
	d.t.Helper()
	s, e := table.PutSnap(api.Snap{ID: id, Parent: parent, Layer: layer})
	if e != api.OK {
		d.t.Fatal(id, e)
	}
	d.l[d.g.Snap+at] = s
}

// tear turns a bit of a sector.
func (d *disk) tear(at int) { d.l[at][9] ^= 0x20 }

// commit lays a mark that is committed, with these writes in the journal.
func (d *disk) commit(l ...api.Write) {
	d.t.Helper()
	s, e := mark.Put(l, len(d.l))
	if e != api.OK {
		d.t.Fatal(l, e)
	}
	d.l[2] = s
	for i, w := range l {
		d.l[3+i] = w.Data
	}
}

// target lets the mark have these targets, whatever they are, with all of its sums.
func (d *disk) target(targets ...int) {
	s := api.Sector{0x4A, 0x4D, byte(len(targets))}
	var batch []byte
	for i, at := range targets {
		binary.LittleEndian.PutUint16(s[4+2*i:], uint16(at))
		batch = append(batch, d.l[3+i][:]...)
	}
	binary.LittleEndian.PutUint32(s[20:], crc.Sum(batch))
	d.l[2] = crc.Seal(s)
}

// family is a disk of n sectors with a bit of all: good entries, kept ones that were live and that were quarantined, lost and torn ones; tags and snapshots that count and that don't. The slots of the entries are told by at.
func family(t *testing.T, n int) *disk {
	d := zeros(t, n)
	blob := d.blob(d.at(0), "abc")
	d.next++ // a data sector that is nobody's
	one := d.doc(d.at(1), api.Manifest, blob)
	index := d.doc(d.at(2), api.Index, one, one)
	d.quarantine(d.at(3), "quarantined")
	d.corrupt(d.at(4), "corrupt")
	d.blob(d.at(5), "abc") // the same again
	d.blob(d.at(6), "torn")
	d.tear(d.g.Dir + d.at(6))
	d.entry(d.at(7), api.Live, d.g.Data, 2, keyOf("ab")) // on the first one's sector
	d.tag(0, "v1", index.Key)
	d.tag(1, "v2", nowhere(1))
	d.tag(2, "v1", blob.Key)
	d.tag(d.g.Tags-1, "v2", blob.Key)
	d.snap(0, 5, 7, blob.Key)
	d.snap(1, 7, 5, index.Key)
	d.snap(2, 9, 0, nowhere(1))
	d.snap(d.g.Snaps-1, 3, 9, one.Key)
	return d
}

// house is a disk of n sectors on which nothing differs: what family comes to, and any bytes in its journal and its free sectors.
func house(t *testing.T, n int) *disk {
	d := family(t, n)
	r := rand.New(rand.NewSource(int64(n)))
	noise(r, d.l[3:11])
	noise(r, d.l[d.next:])
	return d.repair()
}

// noise fills some sectors with any bytes.
func noise(r *rand.Rand, l []api.Sector) {
	for i := range l {
		r.Read(l[i][:])
	}
}
