package audit_test

import (
	"fmt"
	"math/rand"
	"slices"
	"testing"

	"assay/api"
	"assay/manifest"
)

// anyOf is one of a list.
func anyOf[T any](r *rand.Rand, l []T) T { return l[r.Intn(len(l))] }

// byChance is a disk with a store of all kinds of things, right ones and wrong ones; how much of it is wrong is chance too.
func byChance(t *testing.T, r *rand.Rand, n int) *disk {
	d := zeros(t, n)
	noise(r, d.l[3:11])
	for at := d.g.Data; at < n; at++ {
		d.l[at] = d.l[3+r.Intn(3)] // so few unlike ones that keys meet
	}
	bad := r.Intn(4)
	laid := d.anyBlobs(r, bad)
	d.anyOverlaps(r, bad)
	for at := range d.g.Tags {
		if r.Intn(3) > 0 {
			d.tag(at, fmt.Sprint("t", r.Intn(2+d.g.Tags)), anyKey(r, laid, bad))
		}
	}
	for at := range d.g.Snaps {
		if r.Intn(4) > 0 {
			d.snap(at, uint32(1+r.Intn(2*d.g.Snaps)), uint32(r.Intn(2*d.g.Snaps)), anyKey(r, laid, bad))
		}
	}
	d.settle()
	noise(r, d.l[3:3+r.Intn(9)])
	if r.Intn(4) == 0 {
		d.mend()
	}
	d.spoil(r, bad)
	return d
}

// anyBlobs lays entries at slots in any order: plain ones, and documents that name what was laid ahead of them, rightly and not.
func (d *disk) anyBlobs(r *rand.Rand, bad int) []api.Desc {
	laid := []api.Desc{{Key: nowhere(1), Size: 1}, d.blob(0, "abc")}
	for i, at := range r.Perm(d.g.Slots) {
		b := anyBytes(r, laid, bad, i)
		if at == 0 || len(b) > d.room() || r.Intn(5) == 0 {
			continue
		}
		switch {
		case r.Intn(10) >= bad:
			laid = append(laid, d.blob(at, b))
		case r.Intn(2) == 0:
			laid = append(laid, d.corrupt(at, b))
		default:
			laid = append(laid, d.put(at, api.Quarantined, b, keyOf(b)))
		}
	}
	return laid
}

// anyBytes is a blob's bytes.
func anyBytes(r *rand.Rand, laid []api.Desc, bad, i int) string {
	if r.Intn(3) > 0 {
		return anyOf(r, []string{"", "abc", "de", fmt.Sprint("blob", i), fmt.Sprint("blob", i), fmt.Sprint("blob", i)})
	}
	var named []api.Desc
	for range 1 + r.Intn(4) {
		x := laid[max(0, len(laid)-1-r.Intn(8))]
		if r.Intn(20) < bad {
			x.Size++
		}
		named = append(named, x)
	}
	b, _ := manifest.Write(anyOf(r, []int{api.Manifest, api.Index}), named)
	return string(b)
}

// anyOverlaps lays entries at any places of the data, most of them with the key of what lies there.
func (d *disk) anyOverlaps(r *rand.Rand, bad int) {
	for at := range d.g.Slots {
		if r.Intn(12) >= bad {
			continue
		}
		e := api.Entry{State: 1 + r.Intn(5)/4, Start: d.g.Data + r.Intn(len(d.l)-d.g.Data), Length: 1 + r.Intn(130)}
		e.Length = min(e.Length, 64*(len(d.l)-e.Start))
		e.Key = keyOf(string(imageOf(d.t, d.l).Bytes(e)))
		if r.Intn(4) == 0 {
			e.Key = nowhere(at)
		}
		d.entry(at, e)
	}
}

// anyKey is mostly the key of something that is laid.
func anyKey(r *rand.Rand, laid []api.Desc, bad int) api.Digest {
	if r.Intn(10) < bad {
		return nowhere(r.Intn(3))
	}
	return anyOf(r, laid).Key
}

// spoil makes some sectors of the head others.
func (d *disk) spoil(r *rand.Rand, bad int) {
	for range r.Intn(1 + 2*bad) {
		switch r.Intn(7) {
		case 0:
			d.turn(r.Intn(len(d.l)), r.Intn(len(d.l)))
		case 1:
			d.count(r.Intn(d.g.Slots), uint32(r.Intn(4)))
		case 2:
			d.tear(anyOf(r, []int{d.g.Bitmap, d.g.Dir - 1, d.g.Count, d.g.Data - 1}))
		case 3, 4:
			d.tear(d.g.Dir + r.Intn(d.g.Count-d.g.Dir))
		case 5:
			d.tear(r.Intn(2))
		case 6:
			d.tear(2)
		}
	}
}

// P23.1 to P23.4: disks by chance, of every size.
func TestByChance(t *testing.T) {
	r := rand.New(rand.NewSource(50))
	seen := map[int]int{}
	for range 9 {
		for _, n := range sizes() {
			l := check(t, byChance(t, r, n).l)
			for _, f := range l {
				seen[f.Kind]++
			}
			if len(l) == 0 {
				seen[0]++
			}
		}
	}
	for kind := range 20 {
		if seen[kind] < 10 {
			t.Errorf("of the kind %d are too few to tell: %v", kind, seen)
		}
	}
}

// P23.2: disks by chance with a committed mark: what is found is FJournal, and what is found on the disk behind its replay.
func TestByChanceBehindTheReplay(t *testing.T) {
	r := rand.New(rand.NewSource(51))
	for range 2 {
		for _, n := range sizes() {
			d, other := byChance(t, r, n), byChance(t, r, n)
			d.l[2] = api.Sector{}
			targets := []int{anyOf(r, []int{0, 1, 11})}
			for range r.Intn(8) {
				targets = append(targets, 11+r.Intn(d.g.Data-11), d.g.Data+r.Intn(n-d.g.Data))
			}
			slices.Sort(targets)
			targets = slices.Compact(targets)
			replayed := slices.Clone(d.l)
			var batch []api.Write
			for _, at := range targets[:min(8, len(targets))] {
				batch = append(batch, api.Write{At: at, Data: other.l[at]})
				replayed[at] = other.l[at]
			}
			d.commit(batch...)
			got := check(t, d.l)
			if want := append([]api.Finding{f(api.FJournal, 0)}, check(t, replayed)...); !slices.Equal(got, want) {
				t.Fatalf("%d sectors: %v, want %v", n, got, want)
			}
		}
	}
}

// P1, P23.2: disks that are noise, whole or in part.
func TestNoise(t *testing.T) {
	r := rand.New(rand.NewSource(52))
	for _, n := range sizes() {
		d := byChance(t, r, n)
		for range 3 {
			l := slices.Clone(d.l)
			from := r.Intn(n)
			noise(r, l[from:from+1+r.Intn(n-from)])
			check(t, l)
		}
		noise(r, d.l)
		check(t, d.l)
	}
}
