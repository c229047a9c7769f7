package drive_test

import (
	"fmt"
	"math/rand"
	"slices"
	"testing"

	"assay/api"
)

// anyOf is one of a list.
func anyOf[T any](r *rand.Rand, l []T) T { return l[r.Intn(len(l))] }

// byChance is a disk with a store of all kinds of things, right ones and wrong ones; how much of it is wrong is chance too. Its mark is empty.
func byChance(t *testing.T, r *rand.Rand, n int) *disk {
	d := zeros(t, n)
	noise(r, d.l)
	for at := d.data; at < n; at++ {
		d.l[at] = d.l[3+r.Intn(3)] // so few unlike ones that keys meet
	}
	clear(d.l[d.dir:d.count])
	clear(d.l[2:3])
	bad := r.Intn(5)
	laid := d.anyBlobs(r, bad)
	d.anyOverlaps(r, bad)
	for at := range d.tags {
		if r.Intn(4) > 0 {
			d.pin(at, fmt.Sprint("t", r.Intn(2+d.tags)), anyKey(r, laid, bad))
		}
	}
	wide := 1 + r.Intn(2*d.snaps)
	for at := range d.snaps {
		if r.Intn(6) > 0 {
			d.shot(at, uint32(1+r.Intn(wide)), uint32(r.Intn(wide+1)), anyKey(r, laid, bad))
		}
	}
	for range r.Intn(1 + 2*bad) {
		d.tear(d.dir + r.Intn(d.count-d.dir))
	}
	d.anyRest(r, bad)
	return d
}

// anyRest makes most of the superblocks, the bitmap, the counts and the slots what they will be; of the others some are wrong in a bit, with their sums.
func (d *disk) anyRest(r *rand.Rand, bad int) {
	for at, s := range read(d.l).will()[:d.data] {
		if at >= 2 && at <= 10 || r.Intn(8) < bad {
			continue
		}
		d.l[at] = s
		if r.Intn(12) < bad && (at < d.dir || at >= d.count) {
			d.l[at][r.Intn(60)] ^= 1 << r.Intn(8)
			d.l[at] = summed(d.l[at])
		}
	}
}

// anyBlobs lays entries at slots in any order: plain ones, and documents that name what was laid ahead of them, rightly and not.
func (d *disk) anyBlobs(r *rand.Rand, bad int) []api.Desc {
	laid := []api.Desc{gone(1), d.blob(0, "abc")}
	for i, at := range r.Perm(d.slots) {
		b := d.anyBytes(r, laid, bad, i)
		if at == 0 || len(b) > d.spare() || r.Intn(5) == 0 {
			continue
		}
		switch {
		case r.Intn(10) >= bad:
			laid = append(laid, d.blob(at, b))
		case r.Intn(3) == 0:
			laid = append(laid, gone(i))
		case r.Intn(2) == 0:
			laid = append(laid, d.corrupt(at, b))
		default:
			laid = append(laid, d.quarantine(at, b))
		}
	}
	return laid
}

// anyBytes is a blob's bytes.
func (d *disk) anyBytes(r *rand.Rand, laid []api.Desc, bad, i int) string {
	if r.Intn(3) > 0 {
		return anyOf(r, []string{"", "abc", "de", fmt.Sprint("blob", i), fmt.Sprint("blob", i), fmt.Sprint("blob", i)})
	}
	var named []api.Desc
	for range 1 + r.Intn(4) {
		x := laid[max(0, len(laid)-1-r.Intn(8))]
		if r.Intn(20) < bad {
			x.Size++
		}
		named = append(named, x)
	}
	return page(d.t, anyOf(r, []int{api.Manifest, api.Index}), named...)
}

// anyOverlaps lays entries at any places of the data, most of them with the key of what lies there.
func (d *disk) anyOverlaps(r *rand.Rand, bad int) {
	for at := range d.slots {
		if r.Intn(16) >= bad {
			continue
		}
		start := d.data + r.Intn(d.n-d.data)
		length := min(1+r.Intn(130), 64*(d.n-start))
		switch r.Intn(6) {
		case 0:
			d.entry(at, api.Live, start, length, nowhere(at))
		case 1:
			d.entry(at, api.Quarantined, start, length, nowhere(at))
		default:
			d.lying(at, start, length)
		}
	}
}

// anyKey is mostly the key of something that is laid.
func anyKey(r *rand.Rand, laid []api.Desc, bad int) api.Digest {
	if r.Intn(10) < bad {
		return nowhere(r.Intn(3))
	}
	return anyOf(r, laid).Key
}

// anyMark lays a mark of any state; a committed one has targets in the head and in the data, with sectors of another disk or of this one.
func (d *disk) anyMark(r *rand.Rand) {
	d.l[2] = api.Sector{}
	state := 1 + r.Intn(3)
	if state == empty {
		return
	}
	other := byChance(d.t, r, d.n)
	var targets []int
	for range 4 {
		targets = append(targets, r.Intn(2), 11+r.Intn(d.data-11), d.dir+r.Intn(d.count-d.dir), d.data+r.Intn(d.n-d.data))
	}
	slices.Sort(targets)
	targets = slices.Compact(targets)
	targets = targets[r.Intn(len(targets)-2):]
	var batch []api.Write
	for _, at := range targets[:min(8, 1+r.Intn(len(targets)))] {
		from := anyOf(r, []*disk{d, other})
		batch = append(batch, api.Write{At: at, Data: from.l[at]})
	}
	d.commit(batch...)
	if state == rubbish {
		d.l[anyOf(r, []int{2, 2, 3})][r.Intn(64)] ^= 1 << r.Intn(8)
	}
}

// tally counts what a disk came to, so that it can be told whether chance has tried all.
func tally(l []api.Sector, told api.Report, seen map[string]int) {
	for _, f := range told.Findings {
		seen[fmt.Sprint("kind ", f.Kind)]++
	}
	r := read(l)
	seen[fmt.Sprint("mark ", r.mark)]++
	seen[fmt.Sprint("status ", told.Status)]++
	seen[fmt.Sprint("fetch ", min(1, len(told.Fetch)))]++
	seen[fmt.Sprint("dropped ", min(1, len(told.Dropped)))]++
	seen[fmt.Sprint("batches ", min(3, (len(r.left())+7)/8))]++
}

// P6 to P10, P28.1 to P28.4: disks by chance, of every size, with any mark.
func TestByChance(t *testing.T) {
	r := rand.New(rand.NewSource(50))
	seen := map[string]int{}
	for range 12 {
		for _, n := range sizes() {
			d := byChance(t, r, n)
			d.anyMark(r)
			if r.Intn(8) == 0 {
				d.mend()
			}
			tally(d.l, check(t, d.l), seen)
		}
	}
	want := []string{"mark 1", "mark 2", "mark 3", "status 1", "status 2", "fetch 0", "fetch 1", "dropped 0", "dropped 1", "batches 0", "batches 1", "batches 2", "batches 3"}
	for kind := api.FJournal; kind <= api.FCount; kind++ {
		want = append(want, fmt.Sprint("kind ", kind))
	}
	for _, what := range want {
		if seen[what] < 10 {
			t.Errorf("%s: too few to tell: %v", what, seen)
		}
	}
}

// P6, P7, P11: disks by chance, stopped anywhere, any number of times.
func TestStopsByChance(t *testing.T) {
	for part := range 8 {
		t.Run(fmt.Sprint(part), func(t *testing.T) {
			t.Parallel()
			r := rand.New(rand.NewSource(int64(60 + part)))
			for range 12 {
				d := byChance(t, r, anyOf(r, []int{64, 71, 80, 128}))
				d.anyMark(r)
				sweep(t, d.l, 1+r.Intn(4), func(n int) [][]bool { return lasting(r, n) })
				a := aimOf(d.l)
				for times := range 8 {
					dev := deviceOf(t, d.l)
					a.stumble(t, r, dev, times)
					checkProper(t, dev.Durable())
					checkNoMore(t, a.first, dev.Durable())
				}
			}
		})
	}
}

// P1, P6 to P11: disks that are noise, whole or in part.
func TestNoise(t *testing.T) {
	r := rand.New(rand.NewSource(51))
	for _, n := range sizes() {
		d := byChance(t, r, n)
		for range 3 {
			l := slices.Clone(d.l)
			from := r.Intn(n)
			noise(r, l[from:from+1+r.Intn(n-from)])
			check(t, l)
		}
		noise(r, d.l)
		check(t, d.l)
		is(t, len(left(t, d.l)), d.data-9)
		aimOf(d.l).stumble(t, r, deviceOf(t, d.l), 3)
	}
}
