package mend_test

import (
	"fmt"
	"math/rand"
	"slices"
	"testing"

	"assay/api"
	"assay/mend"
)

// anyOf is one of a list.
func anyOf[T any](r *rand.Rand, l []T) T { return l[r.Intn(len(l))] }

// byChance is a disk with a store of all kinds of things, right ones and wrong ones; how much of it is wrong is chance too.
func byChance(t *testing.T, r *rand.Rand, n int) *disk {
	d := zeros(t, n)
	noise(r, d.l)
	for at := d.g.Data; at < n; at++ {
		d.l[at] = d.l[3+r.Intn(3)] // so few unlike ones that keys meet
	}
	clear(d.l[d.g.Dir:d.g.Count])
	clear(d.l[2:3])
	bad := r.Intn(5)
	laid := d.anyBlobs(r, bad)
	d.anyOverlaps(r, bad)
	for at := range d.g.Tags {
		if r.Intn(4) > 0 {
			d.tag(at, fmt.Sprint("t", r.Intn(2+d.g.Tags)), anyKey(r, laid, bad))
		}
	}
	wide := 1 + r.Intn(2*d.g.Snaps)
	for at := range d.g.Snaps {
		if r.Intn(6) > 0 {
			d.snap(at, uint32(1+r.Intn(wide)), uint32(r.Intn(wide+1)), anyKey(r, laid, bad))
		}
	}
	for range r.Intn(1 + 2*bad) {
		d.tear(d.g.Dir + r.Intn(d.g.Count-d.g.Dir))
	}
	return d
}

// anyBlobs lays entries at slots in any order: plain ones, and documents that name what was laid ahead of them, rightly and not.
func (d *disk) anyBlobs(r *rand.Rand, bad int) []api.Desc {
	laid := []api.Desc{{Key: nowhere(1), Size: 1}, d.blob(0, "abc")}
	for i, at := range r.Perm(d.g.Slots) {
		b := d.anyBytes(r, laid, bad, i)
		if at == 0 || len(b) > d.room() || r.Intn(5) == 0 {
			continue
		}
		switch {
		case r.Intn(10) >= bad:
			laid = append(laid, d.blob(at, b))
		case r.Intn(2) == 0:
			laid = append(laid, d.corrupt(at, b))
		default:
			laid = append(laid, d.quarantine(at, b))
		}
	}
	return laid
}

// anyBytes is a blob's bytes.
func (d *disk) anyBytes(r *rand.Rand, laid []api.Desc, bad, i int) string {
	if r.Intn(3) > 0 {
		return anyOf(r, []string{"", "abc", "de", fmt.Sprint("blob", i), fmt.Sprint("blob", i), fmt.Sprint("blob", i)})
	}
	var named []api.Desc
	for range 1 + r.Intn(4) {
		x := laid[max(0, len(laid)-1-r.Intn(8))]
		if r.Intn(20) < bad {
			x.Size++
		}
		named = append(named, x)
	}
	return page(d.t, anyOf(r, []int{api.Manifest, api.Index}), named...)
}

// anyOverlaps lays entries at any places of the data, most of them with the key of what lies there.
func (d *disk) anyOverlaps(r *rand.Rand, bad int) {
	for at := range d.g.Slots {
		if r.Intn(12) >= bad {
			continue
		}
		start := d.g.Data + r.Intn(len(d.l)-d.g.Data)
		length := min(1+r.Intn(130), 64*(len(d.l)-start))
		switch r.Intn(6) {
		case 0:
			d.entry(at, api.Live, start, length, nowhere(at))
		case 1:
			d.entry(at, api.Quarantined, start, length, nowhere(at))
		default:
			d.lying(at, start, length)
		}
	}
}

// anyKey is mostly the key of something that is laid.
func anyKey(r *rand.Rand, laid []api.Desc, bad int) api.Digest {
	if r.Intn(10) < bad {
		return nowhere(r.Intn(3))
	}
	return anyOf(r, laid).Key
}

// tally counts what a disk by chance came to, so that it can be told whether chance has tried all.
func tally(t *testing.T, m *mend.Mended, seen map[string]int) {
	w := ask(t, m)
	im := m.Image()
	for at := range im.Geom().Slots {
		was, kind := im.Entry(at)
		e, ok := w.entries[at]
		seen[fmt.Sprint("entry ", kind, was.State, e.State, ok)]++
	}
	for at := range im.Geom().Tags {
		_, kind := im.Tag(at)
		_, ok := w.tags[at]
		seen[fmt.Sprint("tag ", kind, ok)]++
		was, kind := im.Snap(at)
		snap, ok := w.snaps[at]
		seen[fmt.Sprint("snap ", kind, ok, ok && was.Parent != snap.Parent, snap.Parent != 0)]++
	}
	seen["dropped"] += len(w.dropped)
	seen["count"] += len(w.counts)
}

// P24.1 to P24.6: disks by chance, of every size.
func TestByChance(t *testing.T) {
	r := rand.New(rand.NewSource(60))
	seen := map[string]int{}
	for range 12 {
		for _, n := range sizes() {
			tally(t, check(t, byChance(t, r, n).l), seen)
		}
	}
	for _, what := range []string{
		"entry 1 0 0 false", "entry 3 0 0 false", "entry 2 1 1 true", "entry 2 1 2 true", "entry 2 1 0 false", "entry 2 2 2 true", "entry 2 2 0 false",
		"tag 1 false", "tag 2 true", "tag 2 false", "tag 3 false",
		"snap 1 false false false", "snap 2 true false true", "snap 2 true false false", "snap 2 true true false", "snap 2 false false false", "snap 3 false false false",
		"dropped", "count",
	} {
		if seen[what] < 20 {
			t.Errorf("%s: too few to tell: %v", what, seen)
		}
	}
}

// P24.1 to P24.6: disks by chance with a committed mark, which is judged behind its replay, and with one that is rubbish, which isn't.
func TestByChanceWithMarks(t *testing.T) {
	r := rand.New(rand.NewSource(61))
	for range 3 {
		for _, n := range sizes() {
			d, other := byChance(t, r, n), byChance(t, r, n)
			var targets []int
			for range 8 {
				targets = append(targets, d.g.Dir+r.Intn(d.g.Count-d.g.Dir), d.g.Data+r.Intn(n-d.g.Data))
			}
			slices.Sort(targets)
			targets = slices.Compact(targets)[:1+r.Intn(6)]
			was, replayed := ask(t, d.mended()), slices.Clone(d.l)
			var batch []api.Write
			for _, at := range targets {
				batch = append(batch, api.Write{At: at, Data: other.l[at]})
				replayed[at] = other.l[at]
			}
			d.commit(batch...)
			same(t, ask(t, d.mended()), ask(t, check(t, replayed)))
			d.l[2][r.Intn(64)] ^= 1 << r.Intn(8)
			same(t, ask(t, d.mended()), was)
		}
	}
}

// P1, P24.5, P24.6: disks that are noise, whole or in part.
func TestNoise(t *testing.T) {
	r := rand.New(rand.NewSource(62))
	for _, n := range sizes() {
		d := byChance(t, r, n)
		for range 3 {
			l := slices.Clone(d.l)
			from := r.Intn(n)
			noise(r, l[from:from+1+r.Intn(n-from)])
			check(t, l)
		}
		noise(r, d.l)
		m := check(t, d.l)
		is(t, len(ask(t, m).entries), 0)
	}
}
