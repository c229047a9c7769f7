package maker_test

import (
	"fmt"
	"slices"
	"strings"
	"testing"

	"assay/api"
	"assay/audit"
	"assay/device"
	"assay/drive"
	"assay/image"
	"assay/lay"
	"assay/maker"
	"assay/manifest"
)

// pair is a Maker and the model, told the same: each call's answer is held against the other's, and the disk behind it too.
type pair struct {
	t *testing.T
	*model
	m *maker.Maker
}

// made is an empty store of n sectors.
func made(t *testing.T, n int) *pair {
	t.Helper()
	m, e := maker.New(n)
	if m == nil || e != api.OK {
		t.Fatalf("New(%d): %v, %d", n, m, e)
	}
	return &pair{t: t, model: &model{places: placesOf(n)}, m: m}
}

// list is texts as bytes.
func list(l []string) [][]byte {
	var b [][]byte
	for _, s := range l {
		b = append(b, []byte(s))
	}
	return b
}

// put puts blobs, with this end.
func (p *pair) put(want api.Errno, l ...string) []api.Digest {
	p.t.Helper()
	keys, e := p.m.Put(list(l)...)
	wantKeys, wanted := p.model.put(l...)
	if e != want || wanted != want || !slices.Equal(keys, wantKeys) {
		p.t.Fatalf("%d sectors: P29.2: %d blobs: %d digests, %d, want %d, %d; %d was asked for", p.n, len(l), len(keys), e, len(wantKeys), wanted, want)
	}
	p.same()
	return keys
}

// one puts one blob that has room.
func (p *pair) one(b string) api.Desc {
	p.t.Helper()
	return api.Desc{Key: p.put(api.OK, b)[0], Size: len(b)}
}

// page is a document's bytes.
func page(t *testing.T, kind int, named ...api.Desc) string {
	t.Helper()
	b, e := manifest.Write(kind, named)
	if e != api.OK {
		t.Fatal(kind, named, e)
	}
	return string(b)
}

// doc puts a document that has room.
func (p *pair) doc(kind int, named ...api.Desc) api.Desc {
	p.t.Helper()
	return p.one(page(p.t, kind, named...))
}

// pin puts a tag, with this end.
func (p *pair) pin(want api.Errno, name string, key api.Digest) {
	p.t.Helper()
	e, wanted := p.m.Tag(name, key), p.model.pin(name, key)
	if e != want || wanted != want {
		p.t.Fatalf("%d sectors: P29.3: Tag(%q): %d, want %d; %d was asked for", p.n, name, e, wanted, want)
	}
	p.same()
}

// shoot puts a snapshot, with this end.
func (p *pair) shoot(want api.Errno, id, parent uint32, layer api.Digest) {
	p.t.Helper()
	snap := api.Snap{ID: id, Parent: parent, Layer: layer}
	e, wanted := p.m.Snap(snap), p.model.shoot(snap)
	if e != want || wanted != want {
		p.t.Fatalf("%d sectors: P29.4: Snap(%d, %d): %d, want %d; %d was asked for", p.n, id, parent, e, wanted, want)
	}
	p.same()
}

// same: P29.5, byte by byte; so what was refused has changed nothing.
func (p *pair) same() []api.Sector {
	p.t.Helper()
	got, want := p.m.Sectors(), p.sectors()
	if len(got) != len(want) {
		p.t.Fatalf("P29.5: %d sectors, want %d", len(got), len(want))
	}
	for at := range got {
		if got[at] != want[at] {
			p.t.Fatalf("%d sectors: P29.5: at %d: %x, want %x", p.n, at, got[at], want[at])
		}
	}
	return got
}

// check: P29.5 and P29.6: the disk is as the model has it, and nothing is wrong there.
func (p *pair) check() {
	p.t.Helper()
	l := p.same()
	im, e := image.Of(l)
	if e != api.OK {
		p.t.Fatalf("%d sectors: %d", p.n, e)
	}
	for _, workers := range []int{1, 8} {
		if found, e := audit.Findings(im, workers); e != api.OK || len(found) > 0 {
			p.t.Fatalf("%d sectors: P29.6: %v, %d", p.n, found, e)
		}
	}
	if r, e := drive.Audit(l, 1); e != api.OK || !clean(r) {
		p.t.Fatalf("%d sectors: P29.6: Audit: %v, %d", p.n, r, e)
	}
	if w, e := drive.Left(l); e != api.OK || len(w) > 0 {
		p.t.Fatalf("%d sectors: P29.6: Left: %v, %d", p.n, w, e)
	}
	if w, e := lay.Differ(l); e != api.OK || len(w) > 0 {
		p.t.Fatalf("%d sectors: P29.6: Differ: %v, %d", p.n, w, e)
	}
	checkRun(p.t, l)
}

// clean tells whether a report finds nothing.
func clean(r api.Report) bool {
	return r.Status == api.Clean && len(r.Findings)+len(r.Fetch)+len(r.Dropped) == 0
}

// checkRun: a run over a device of these sectors is Clean, and only reads.
func checkRun(t *testing.T, l []api.Sector) {
	t.Helper()
	d, e := device.New(l)
	if e != api.OK {
		t.Fatal(e)
	}
	r, e := drive.Run(d, 1)
	reads, writes, flushes := d.Acts()
	if e != api.OK || !clean(r) || reads != len(l) || writes+flushes > 0 || !slices.Equal(d.Durable(), l) {
		t.Fatalf("%d sectors: P29.6: Run: %v, %d; %d reads, %d writes, %d flushes", len(l), r, e, reads, writes, flushes)
	}
}

// sizes is the least size, the greatest one, and some between them: there the bitmap, the directory, tags and counts become more.
func sizes() []int {
	return []int{64, 71, 72, 80, 96, 120, 127, 128, 240, 256, 360, 479, 480, 481, 500, 720, 959, 960, 961, 1000, 1023, 1024}
}

// few is the least size, the greatest one, and one between.
func few() []int { return []int{64, 481, 1024} }

// text is n bytes, of which those of one i are unlike those of another one (of the first 250, if n is 1); none of them is 0.
func text(i, n int) string {
	s := string([]byte{byte(1 + i%250)}) + fmt.Sprint(".", i, ".")
	return (s + strings.Repeat("text ", n/5+1))[:n]
}

// nowhere is the descriptor of a blob that is put to no store.
func nowhere(i int) api.Desc {
	b := fmt.Sprint("nowhere", i)
	return api.Desc{Key: keyOf(b), Size: len(b)}
}

// fillSlots puts blobs of a byte each till no slot is free.
func (p *pair) fillSlots() {
	p.t.Helper()
	var l []string
	for i := len(p.blobs); i < p.slots; i++ {
		l = append(l, text(i, 1))
	}
	p.put(api.OK, l...)
}

// fillRoom puts blobs, as great as may be, till no data sector is free.
func (p *pair) fillRoom() {
	p.t.Helper()
	var l []string
	taken := p.taken()
	left := p.n - slices.Index(taken, false)
	if !slices.Contains(taken, false) {
		return
	}
	for i := 0; left > 0; i++ {
		n := min(left, 64)
		l = append(l, text(100+i, 64*n))
		left -= n
	}
	p.put(api.OK, l...)
}

// fillBoth puts blobs to an empty store till neither a slot nor a data sector is free. The last blob has the last sector.
func (p *pair) fillBoth() {
	p.t.Helper()
	extra := p.room() - (p.slots - 1)
	l := []string{""}
	for i := 1; i < p.slots; i++ {
		more := min(extra, 63)
		extra -= more
		l = append(l, text(i, 64*(1+more)))
	}
	slices.Reverse(l)
	p.put(api.OK, l...)
}
