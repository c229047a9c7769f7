package fetch_test

import (
	"fmt"
	"math/rand"
	"slices"
	"testing"

	"assay/api"
	"assay/mark"
)

// anyOf is one of a list.
func anyOf[T any](r *rand.Rand, l []T) T { return l[r.Intn(len(l))] }

// byChance is a disk with tags of all kinds of things, right ones and wrong ones; how much of it is wrong is chance too.
func byChance(t *testing.T, r *rand.Rand, n int) *disk {
	d := zeros(t, n)
	noise(r, d.l)
	for at := d.g.Data; at < n; at++ {
		d.l[at] = d.l[3+r.Intn(3)] // so few unlike ones that keys meet
	}
	clear(d.l[d.g.Dir:d.g.Count])
	clear(d.l[2:3])
	bad := r.Intn(5)
	laid := d.anyBlobs(r, bad)
	d.anyOverlaps(r, bad)
	for at := range d.g.Tags {
		if r.Intn(4) > 0 {
			d.tag(at, fmt.Sprint("t", r.Intn(2+min(d.g.Tags, 10))), anyKey(r, laid, bad))
		}
	}
	for range r.Intn(1 + 2*bad) {
		d.tear(d.g.Dir + r.Intn(d.g.Snap-d.g.Dir))
	}
	return d
}

// anyBlobs lays entries at slots in any order: plain ones, and documents that name what was laid ahead of them, rightly and not.
func (d *disk) anyBlobs(r *rand.Rand, bad int) []api.Desc {
	laid := []api.Desc{gone(1), d.blob(0, "abc")}
	for i, at := range r.Perm(d.g.Slots) {
		b := d.anyBytes(r, laid, bad, i)
		if at == 0 || len(b) > d.room() || r.Intn(5) == 0 {
			continue
		}
		switch {
		case r.Intn(10) >= bad:
			laid = append(laid, d.blob(at, b))
		case r.Intn(3) == 0:
			laid = append(laid, gone(i))
		case len(b) > 0 && r.Intn(2) == 0:
			laid = append(laid, d.corrupt(at, b))
		default:
			laid = append(laid, d.quarantine(at, b))
		}
	}
	return laid
}

// anyBytes is a blob's bytes.
func (d *disk) anyBytes(r *rand.Rand, laid []api.Desc, bad, i int) string {
	if r.Intn(2) > 0 {
		return anyOf(r, []string{"", "abc", "de", fmt.Sprint("blob", i), fmt.Sprint("blob", i), fmt.Sprint("blob", i)})
	}
	var named []api.Desc
	for range 1 + r.Intn(4) {
		x := laid[max(0, len(laid)-1-r.Intn(8))]
		if r.Intn(20) < bad {
			x.Size++
		}
		named = append(named, x)
	}
	return page(d.t, anyOf(r, []int{api.Manifest, api.Index}), named...)
}

// anyOverlaps lays entries at any places of the data, most of them with the key of what lies there.
func (d *disk) anyOverlaps(r *rand.Rand, bad int) {
	for at := range d.g.Slots {
		if r.Intn(24) >= bad {
			continue
		}
		start := d.g.Data + r.Intn(len(d.l)-d.g.Data)
		length := min(1+r.Intn(130), 64*(len(d.l)-start))
		switch r.Intn(6) {
		case 0:
			d.entry(at, api.Live, start, length, nowhere(at))
		case 1:
			d.entry(at, api.Quarantined, start, length, nowhere(at))
		default:
			d.lying(at, start, length)
		}
	}
}

// anyKey is mostly the key of something that is laid.
func anyKey(r *rand.Rand, laid []api.Desc, bad int) api.Digest {
	if r.Intn(10) < bad {
		return nowhere(r.Intn(3))
	}
	return anyOf(r, laid).Key
}

// anyMark lays a mark of any state; a committed one has targets among the entries, the tags and the data, with sectors of another disk or of this one.
func (d *disk) anyMark(r *rand.Rand) {
	d.l[2] = api.Sector{}
	state := r.Intn(3)
	if state == 0 {
		return
	}
	other := byChance(d.t, r, len(d.l))
	var targets []int
	for range 1 + r.Intn(4) {
		targets = append(targets, d.g.Dir+r.Intn(d.g.Snap-d.g.Dir), d.g.Data+r.Intn(len(d.l)-d.g.Data))
	}
	slices.Sort(targets)
	var batch []api.Write
	for _, at := range slices.Compact(targets) {
		from := anyOf(r, []*disk{d, other})
		batch = append(batch, api.Write{At: at, Data: from.l[at]})
	}
	d.commit(batch...)
	if state == 2 {
		d.l[2][r.Intn(64)] ^= 1 << r.Intn(8)
	}
}

// tally counts what a disk by chance came to, so that it can be told whether chance has tried all.
func tally(d *disk, seen map[string]int) {
	read := read(d.image())
	for _, tag := range read.tags() {
		at := read.find(tag.Key)
		if at < 0 {
			seen["of no good entry"]++
			continue
		}
		deep := 0
		for i, is := range read.reached(tag.Key) {
			if is && len(read.slots[i].names) > 0 {
				deep++
			}
		}
		seen[fmt.Sprint("documents ", min(deep, 3))]++
		seen[fmt.Sprint("lacks ", min(len(read.lacked(tag.Key)), 3))]++
		if !read.slots[at].whole && len(read.lacked(tag.Key)) == 0 {
			seen["a size alone is wrong"]++
		}
	}
	seen[fmt.Sprint("mark ", d.image().Mark())]++
	seen[fmt.Sprint("plan ", min(len(check(d.t, d.l)), 5))]++
}

// P27.1 to P27.3: disks by chance, of every size, with any mark.
func TestByChance(t *testing.T) {
	r := rand.New(rand.NewSource(90))
	seen := map[string]int{}
	for range 12 {
		for _, n := range sizes() {
			d := byChance(t, r, n)
			d.anyMark(r)
			tally(d, seen)
		}
	}
	for _, what := range []string{
		"of no good entry", "documents 0", "documents 1", "documents 2", "documents 3", "lacks 0", "lacks 1", "lacks 2", "lacks 3", "a size alone is wrong",
		"plan 0", "plan 1", "plan 2", "plan 5", fmt.Sprint("mark ", mark.Empty), fmt.Sprint("mark ", mark.Committed), fmt.Sprint("mark ", mark.Rubbish),
	} {
		if seen[what] < 10 {
			t.Errorf("%s: too few to tell: %v", what, seen)
		}
	}
}

// P1, P27.1: disks that are noise, whole or in part.
func TestNoise(t *testing.T) {
	r := rand.New(rand.NewSource(91))
	for _, n := range sizes() {
		d := byChance(t, r, n)
		for range 3 {
			l := slices.Clone(d.l)
			from := r.Intn(n)
			noise(r, l[from:from+1+r.Intn(n-from)])
			check(t, l)
		}
		noise(r, d.l)
		d.plans()
	}
}
