package lay_test

import (
	"fmt"
	"math/rand"
	"slices"
	"testing"

	"assay/api"
	"assay/lay"
	"assay/mark"
)

// anyOf is one of a list.
func anyOf[T any](r *rand.Rand, l []T) T { return l[r.Intn(len(l))] }

// byChance is a disk with a store of all kinds of things, right ones and wrong ones; how much of it is wrong is chance too.
func byChance(t *testing.T, r *rand.Rand, n int) *disk {
	d := zeros(t, n)
	noise(r, d.l)
	for at := d.g.Data; at < n; at++ {
		d.l[at] = d.l[3+r.Intn(3)] // so few unlike ones that keys meet
	}
	clear(d.l[d.g.Dir:d.g.Count])
	clear(d.l[2:3])
	bad := r.Intn(5)
	laid := d.anyBlobs(r, bad)
	d.anyOverlaps(r, bad)
	for at := range d.g.Tags {
		if r.Intn(4) > 0 {
			d.tag(at, fmt.Sprint("t", r.Intn(2+d.g.Tags)), anyKey(r, laid, bad))
		}
	}
	wide := 1 + r.Intn(2*d.g.Snaps)
	for at := range d.g.Snaps {
		if r.Intn(6) > 0 {
			d.snap(at, uint32(1+r.Intn(wide)), uint32(r.Intn(wide+1)), anyKey(r, laid, bad))
		}
	}
	for range r.Intn(1 + 2*bad) {
		d.tear(d.g.Dir + r.Intn(d.g.Count-d.g.Dir))
	}
	d.anyRest(r, bad)
	return d
}

// anyRest makes most of the superblocks, the bitmap, the counts and the slots what they will be; of the others some are wrong in a bit or a byte, with their sums.
func (d *disk) anyRest(r *rand.Rand, bad int) {
	for at, s := range model(d.mended()) {
		if at >= 2 && at <= 10 || r.Intn(8) < bad {
			continue
		}
		d.l[at] = s
		if r.Intn(12) < bad && (at < d.g.Dir || at >= d.g.Count) {
			d.l[at][r.Intn(60)] ^= 1 << r.Intn(8)
			d.l[at] = summed(d.l[at])
		}
	}
}

// anyMark lays a mark of any state; a committed one has targets in the head and in the data, with sectors of another disk or of this one.
func (d *disk) anyMark(r *rand.Rand) {
	d.l[2] = api.Sector{}
	state := r.Intn(3)
	if state == 0 {
		return
	}
	other := byChance(d.t, r, len(d.l))
	var targets []int
	for range 4 {
		targets = append(targets, r.Intn(2), 11+r.Intn(d.g.Data-11), d.g.Dir+r.Intn(d.g.Count-d.g.Dir), d.g.Data+r.Intn(len(d.l)-d.g.Data))
	}
	slices.Sort(targets)
	targets = slices.Compact(targets)
	targets = targets[r.Intn(len(targets)-2):]
	var batch []api.Write
	for _, at := range targets[:min(api.MaxBatch, 1+r.Intn(len(targets)))] {
		from := anyOf(r, []*disk{d, other})
		batch = append(batch, api.Write{At: at, Data: from.l[at]})
	}
	d.commit(batch...)
	if state == 2 {
		d.l[2][r.Intn(64)] ^= 1 << r.Intn(8)
	}
}

// anyBlobs lays entries at slots in any order: plain ones, and documents that name what was laid ahead of them, rightly and not.
func (d *disk) anyBlobs(r *rand.Rand, bad int) []api.Desc {
	laid := []api.Desc{{Key: nowhere(1), Size: 1}, d.blob(0, "abc")}
	for i, at := range r.Perm(d.g.Slots) {
		b := d.anyBytes(r, laid, bad, i)
		if at == 0 || len(b) > d.room() || r.Intn(5) == 0 {
			continue
		}
		switch {
		case r.Intn(10) >= bad:
			laid = append(laid, d.blob(at, b))
		case r.Intn(2) == 0:
			laid = append(laid, d.corrupt(at, b))
		default:
			laid = append(laid, d.quarantine(at, b))
		}
	}
	return laid
}

// anyBytes is a blob's bytes.
func (d *disk) anyBytes(r *rand.Rand, laid []api.Desc, bad, i int) string {
	if r.Intn(3) > 0 {
		return anyOf(r, []string{"", "abc", "de", fmt.Sprint("blob", i), fmt.Sprint("blob", i), fmt.Sprint("blob", i)})
	}
	var named []api.Desc
	for range 1 + r.Intn(4) {
		x := laid[max(0, len(laid)-1-r.Intn(8))]
		if r.Intn(20) < bad {
			x.Size++
		}
		named = append(named, x)
	}
	return page(d.t, anyOf(r, []int{api.Manifest, api.Index}), named...)
}

// anyOverlaps lays entries at any places of the data, most of them with the key of what lies there.
func (d *disk) anyOverlaps(r *rand.Rand, bad int) {
	for at := range d.g.Slots {
		if r.Intn(12) >= bad {
			continue
		}
		start := d.g.Data + r.Intn(len(d.l)-d.g.Data)
		length := min(1+r.Intn(130), 64*(len(d.l)-start))
		switch r.Intn(6) {
		case 0:
			d.entry(at, api.Live, start, length, nowhere(at))
		case 1:
			d.entry(at, api.Quarantined, start, length, nowhere(at))
		default:
			d.lying(at, start, length)
		}
	}
}

// anyKey is mostly the key of something that is laid.
func anyKey(r *rand.Rand, laid []api.Desc, bad int) api.Digest {
	if r.Intn(10) < bad {
		return nowhere(r.Intn(3))
	}
	return anyOf(r, laid).Key
}

// tally counts what a disk by chance came to, so that it can be told whether chance has tried all.
func tally(d *disk, seen map[string]int) {
	m := d.mended()
	g := d.g
	for _, w := range d.differ() {
		to := fmt.Sprint(w.Data[0] != 0)
		switch {
		case w.At < 2:
			seen["super"]++
		case w.At < g.Dir:
			seen["bitmap"]++
		case w.At < g.Tag:
			seen["entry "+to]++
		case w.At < g.Snap:
			seen["tag "+to]++
		case w.At < g.Count:
			seen["snap "+to]++
		default:
			seen["counts"]++
		}
	}
	for at, s := range lay.Head(m)[g.Dir:g.Count] {
		if s == d.l[g.Dir+at] && s != (api.Sector{}) {
			seen[fmt.Sprint("stays ", s[0])]++
		}
	}
	seen[fmt.Sprint("mark ", m.Image().Mark())]++
}

// P25.1 to P25.4: disks by chance, of every size, with any mark.
func TestByChance(t *testing.T) {
	r := rand.New(rand.NewSource(70))
	seen := map[string]int{}
	for range 12 {
		for _, n := range sizes() {
			d := byChance(t, r, n)
			d.anyMark(r)
			tally(d, seen)
		}
	}
	for _, what := range []string{
		"super", "bitmap", "counts", "entry true", "entry false", "tag false", "snap true", "snap false",
		"stays 66", "stays 83", "stays 84", fmt.Sprint("mark ", mark.Empty), fmt.Sprint("mark ", mark.Committed), fmt.Sprint("mark ", mark.Rubbish),
	} {
		if seen[what] < 20 {
			t.Errorf("%s: too few to tell: %v", what, seen)
		}
	}
	is(t, seen["tag true"], 0) // no tag is ever changed, but freed
}

// P1, P25.1 to P25.4: disks that are noise, whole or in part.
func TestNoise(t *testing.T) {
	r := rand.New(rand.NewSource(71))
	for _, n := range sizes() {
		d := byChance(t, r, n)
		for range 3 {
			l := slices.Clone(d.l)
			from := r.Intn(n)
			noise(r, l[from:from+1+r.Intn(n-from)])
			check(t, l)
		}
		noise(r, d.l)
		is(t, len(d.differ()), d.g.Data-9)
	}
}
