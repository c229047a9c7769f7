package drive_test

import (
	"slices"
	"testing"

	"assay/api"
	"assay/device"
	"assay/drive"
	"assay/finding"
)

// is holds what is told against what is asked.
func is[T comparable](t *testing.T, got, want T) {
	t.Helper()
	if got != want {
		t.Errorf("%v, want %v", got, want)
	}
}

// f is a finding.
func f(kind, at int) api.Finding { return api.Finding{Kind: kind, At: at} }

// same tells whether two reports are: a list without elements may be nil or not.
func same(a, b api.Report) bool {
	return a.Status == b.Status && slices.Equal(a.Findings, b.Findings) && slices.Equal(a.Fetch, b.Fetch) && slices.Equal(a.Dropped, b.Dropped)
}

// nothing tells whether a report is the zero one.
func nothing(r api.Report) bool { return same(r, api.Report{}) }

// deviceOf is a device of sectors that are a disk.
func deviceOf(t *testing.T, l []api.Sector) *device.Device {
	t.Helper()
	d, e := device.New(l)
	if e != api.OK {
		t.Fatalf("%d sectors: %d", len(l), e)
	}
	return d
}

// audit is what Audit tells of sectors that are a disk.
func audit(t *testing.T, l []api.Sector, workers int) api.Report {
	t.Helper()
	r, e := drive.Audit(l, workers)
	if e != api.OK {
		t.Fatalf("%d sectors, %d workers: Audit: %d", len(l), workers, e)
	}
	return r
}

// left is what Left tells of sectors that are a disk.
func left(t *testing.T, l []api.Sector) []api.Write {
	t.Helper()
	writes, e := drive.Left(l)
	if e != api.OK {
		t.Fatalf("%d sectors: Left: %d", len(l), e)
	}
	return writes
}

// run is a run that must be whole.
func run(t *testing.T, d *device.Device, workers int) api.Report {
	t.Helper()
	r, e := drive.Run(d, workers)
	if e != api.OK {
		t.Fatalf("%d sectors, %d workers: Run: %d", d.N(), workers, e)
	}
	return r
}

// sectorsAt is where writes go to.
func sectorsAt(l []api.Write) []int {
	var at []int
	for _, w := range l {
		at = append(at, w.At)
	}
	return at
}

// aside is a disk with zeros as its journal's sectors, of which nothing is promised behind a stop.
func aside(l []api.Sector) []api.Sector {
	l = slices.Clone(l)
	clear(l[3:11])
	return l
}

// firstOther is the first place at which two disks are not the same, or -1.
func firstOther(a, b []api.Sector) int {
	for i := range min(len(a), len(b)) {
		if a[i] != b[i] {
			return i
		}
	}
	return -1
}

// check holds all that drive tells and does of a disk against the second reading and DOC.md's promises, and answers the report.
func check(t *testing.T, l []api.Sector) api.Report {
	t.Helper()
	was := slices.Clone(l)
	r := read(l)
	want := r.report()
	for _, workers := range []int{1, 3, 8} {
		if got := audit(t, l, workers); !same(got, want) {
			t.Fatalf("%d sectors: P28.1: %d workers: %v, want %v", len(l), workers, got, want)
		}
	}
	if got := left(t, l); !slices.Equal(got, r.left()) {
		t.Fatalf("%d sectors: P28.2: %v, want %v", len(l), sectorsAt(got), sectorsAt(r.left()))
	}
	if !slices.Equal(l, was) {
		t.Fatalf("%d sectors: P2: the list has changed", len(l))
	}
	checkTold(t, want)
	d := deviceOf(t, l)
	if got := run(t, d, 2); !same(got, want) {
		t.Fatalf("%d sectors: P28.3: %v, want %v", len(l), got, want)
	}
	checkActs(t, d, r)
	checkEnd(t, d, r, l)
	checkProper(t, d.Durable())
	checkNoMore(t, r, d.Durable())
	checkDone(t, d)
	return want
}

// checkTold: P9: a report there and back is the same.
func checkTold(t *testing.T, r api.Report) {
	t.Helper()
	b, e := finding.Put(r)
	if e != api.OK {
		t.Fatalf("P9: %v: %d", r, e)
	}
	back, err := finding.Get(b)
	if err != nil || !same(back, r) {
		t.Fatalf("P9: %v, %v, want %v", back, err, r)
	}
}

// checkActs: how many acts the first whole run over a device made.
func checkActs(t *testing.T, d *device.Device, r *reading) {
	t.Helper()
	reads, writes, flushes := d.Acts()
	wantReads, wantWrites, wantFlushes := r.n, 0, 0
	if r.mark != empty {
		wantReads += 9
	}
	for _, a := range r.acts() {
		if a.flush {
			wantFlushes++
		} else {
			wantWrites++
		}
	}
	if reads != wantReads || writes != wantWrites || flushes != wantFlushes {
		t.Fatalf("%d sectors: P28.3: %d reads, %d writes, %d flushes, want %d, %d, %d", r.n, reads, writes, flushes, wantReads, wantWrites, wantFlushes)
	}
	if reads+writes+flushes > 4*r.n+32 {
		t.Fatalf("%d sectors: P10: %d reads, %d writes, %d flushes", r.n, reads, writes, flushes)
	}
}

// checkEnd: where the first whole run over a device, of these sectors, ends.
func checkEnd(t *testing.T, d *device.Device, r *reading, l []api.Sector) {
	t.Helper()
	end := d.Durable()
	if d.Down() || len(d.Pending()) > 0 {
		t.Fatalf("%d sectors: P28.3: down %v, pending %v", r.n, d.Down(), sectorsAt(d.Pending()))
	}
	if at := firstOther(end, r.ends(l)); at >= 0 {
		t.Fatalf("%d sectors: P28.3: another sector at %d", r.n, at)
	}
	if at := firstOther(aside(end), aside(r.will())); at >= 0 {
		t.Fatalf("%d sectors: P6: another sector at %d", r.n, at)
	}
	_, writes, flushes := d.Acts()
	clean := len(r.findings()) == 0
	if clean != (writes+flushes == 0) || clean != slices.Equal(aside(l), aside(end)) || clean && !slices.Equal(l, end) {
		t.Fatalf("%d sectors: P8: clean %v, %d writes, %d flushes", r.n, clean, writes, flushes)
	}
}

// checkDone: P8, P28.4: behind a whole run there is nothing more to find, to write or to fetch.
func checkDone(t *testing.T, d *device.Device) {
	t.Helper()
	was := d.Sectors()
	clean := api.Report{Status: api.Clean}
	if got := audit(t, was, 1); !same(got, clean) {
		t.Fatalf("%d sectors: P8: Audit behind it: %v", d.N(), got)
	}
	if got := left(t, was); len(got) > 0 {
		t.Fatalf("%d sectors: P8: Left behind it: %v", d.N(), sectorsAt(got))
	}
	reads, writes, flushes := d.Acts()
	if got := run(t, d, 1); !same(got, clean) {
		t.Fatalf("%d sectors: P8: Run behind it: %v", d.N(), got)
	}
	nowReads, nowWrites, nowFlushes := d.Acts()
	if nowReads != reads+d.N() || nowWrites != writes || nowFlushes != flushes || !slices.Equal(d.Sectors(), was) {
		t.Fatalf("%d sectors: P8: Run behind it: %d reads, %d writes, %d flushes", d.N(), nowReads-reads, nowWrites-writes, nowFlushes-flushes)
	}
}

// checkProper: P7, the first half, of the disk behind a whole run: asked of the disk as it is, not of how it came there.
func checkProper(t *testing.T, l []api.Sector) {
	t.Helper()
	r := read(l)
	owner := map[int]int{}
	kept := 0
	for i, x := range r.held {
		if x.torn || x.right && x.entry.State == api.Live && !x.fits {
			t.Fatalf("%d sectors: P7: slot %d: %v", r.n, i, x)
		}
		if x.entry.State == api.Quarantined {
			kept++
		}
		for k := range (x.entry.Length + 63) / 64 {
			if low, twice := owner[x.entry.Start+k]; twice {
				t.Fatalf("%d sectors: P7: slots %d and %d have a sector in common", r.n, low, i)
			}
			owner[x.entry.Start+k] = i
		}
	}
	for at := range r.n {
		bits, right := r.bits(l[r.bitmap+at/480], at/480)
		if _, is := owner[at]; !right || bits[at%480] != (is || at < r.data) {
			t.Fatalf("%d sectors: P7: the bit of %d", r.n, at)
		}
	}
	for i, x := range r.held {
		counts, right := r.counts(l[r.count+i/15], i/15)
		if !right || counts[i%15] != x.degree {
			t.Fatalf("%d sectors: P7: the count of %d", r.n, i)
		}
	}
	if l[0] != superOf(r.n) || l[1] != l[0] || l[2] != (api.Sector{}) || kept > r.room {
		t.Fatalf("%d sectors: P7: the superblocks, the mark, or %d in quarantine", r.n, kept)
	}
	checkPins(t, r)
	checkForest(t, r)
}

// checkPins: each tag's closure is there, and no name is there twice.
func checkPins(t *testing.T, r *reading) {
	t.Helper()
	names := map[string]bool{}
	for i, x := range r.pins {
		tag, right := tagIn(r.d0[r.tag+i])
		if !right {
			if r.d0[r.tag+i] != (api.Sector{}) {
				t.Fatalf("%d sectors: P7: tag %d is torn", r.n, i)
			}
			continue
		}
		at := r.find(tag.Key)
		if at < 0 || !r.held[at].whole || names[tag.Name] {
			t.Fatalf("%d sectors: P7: tag %d: %v", r.n, i, x)
		}
		names[tag.Name] = true
	}
}

// checkForest: layers are there, no id is there twice, and parents lead to one without a parent.
func checkForest(t *testing.T, r *reading) {
	t.Helper()
	parents := map[uint32]uint32{}
	for i := range r.snaps {
		snap, right := snapIn(r.d0[r.snap+i])
		if !right {
			if r.d0[r.snap+i] != (api.Sector{}) {
				t.Fatalf("%d sectors: P7: snapshot %d is torn", r.n, i)
			}
			continue
		}
		if _, twice := parents[snap.ID]; twice || r.find(snap.Layer) < 0 {
			t.Fatalf("%d sectors: P7: snapshot %d: %v", r.n, i, snap)
		}
		parents[snap.ID] = snap.Parent
	}
	for id := range parents {
		steps := 0
		for at := id; at != 0; at = parents[at] {
			if _, there := parents[at]; !there || steps > len(parents) {
				t.Fatalf("%d sectors: P7: the parents of %d", r.n, id)
			}
			steps++
		}
	}
}

// checkNoMore: P7, the second half: what the store had, it has, and nothing else.
func checkNoMore(t *testing.T, r *reading, end []api.Sector) {
	t.Helper()
	for i, x := range r.held {
		e, right := r.entry(end[r.dir+i])
		was := x.entry
		if x.kept {
			was.State = api.Quarantined
		}
		if right != (x.good || x.kept) || right && e != was {
			t.Fatalf("%d sectors: P7: slot %d: %v, and was %v", r.n, i, e, x)
		}
	}
	for i, x := range r.pins {
		tag, right := tagIn(end[r.tag+i])
		if right != x.counts || right && tag != x.tag {
			t.Fatalf("%d sectors: P7: tag %d: %v, and was %v", r.n, i, tag, x)
		}
	}
	for i, x := range r.shots {
		snap, right := snapIn(end[r.snap+i])
		if right != x.counts || right && (snap.ID != x.snap.ID || snap.Layer != x.snap.Layer || snap.Parent != 0 && snap.Parent != x.snap.Parent) {
			t.Fatalf("%d sectors: P7: snapshot %d: %v, and was %v", r.n, i, snap, x)
		}
	}
	if !slices.Equal(end[r.data:], r.d0[r.data:]) {
		t.Fatalf("%d sectors: P6: a data sector has changed", r.n)
	}
}

// finds holds what is found on a disk, behind all that check asks of it.
func (d *disk) finds(want ...api.Finding) api.Report {
	d.t.Helper()
	got := check(d.t, d.l)
	if !slices.Equal(got.Findings, want) {
		d.t.Errorf("%d sectors: %v, want %v", d.n, got.Findings, want)
	}
	return got
}

// repaired is the disk behind a whole run.
func (d *disk) repaired() []api.Sector {
	d.t.Helper()
	dev := deviceOf(d.t, d.l)
	run(d.t, dev, 1)
	return dev.Durable()
}
