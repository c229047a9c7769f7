package drive_test

import (
	"fmt"
	"math/rand"
	"slices"
	"testing"

	"assay/api"
)

// P6, P28.3: a mark that is committed with one target, at each place of the disk where one may be, with several sectors.
func TestEachTarget(t *testing.T) {
	base, other := family(t, 64), wreck(t)
	for at := range 64 {
		if at >= 2 && at <= 10 {
			continue
		}
		for i, s := range []api.Sector{{}, {1, 2, 3}, base.l[at], base.l[(at+7)%64], other.l[at]} {
			d := base.copy()
			d.commit(api.Write{At: at, Data: s})
			r := check(t, d.l)
			is(t, r.Findings[0], f(api.FJournal, 0))
			if i == 2 {
				d.finds(f(api.FJournal, 0))
			}
			aimOf(d.l).stumble(t, rand.New(rand.NewSource(int64(at))), deviceOf(t, d.l), 3)
		}
	}
}

// P6, P28.3: committed marks with one to eight targets, of every kind of place: superblocks, bitmap, slots, tags, snapshots, counts, data.
func TestTargetsOfEveryKind(t *testing.T) {
	r := rand.New(rand.NewSource(70))
	for _, n := range []int{64, 128, 481} {
		p := placesOf(n)
		kinds := []func() int{
			func() int { return r.Intn(2) },
			func() int { return p.bitmap + r.Intn(p.dir-p.bitmap) },
			func() int { return p.dir + r.Intn(p.slots) },
			func() int { return p.tag + r.Intn(p.tags) },
			func() int { return p.snap + r.Intn(p.snaps) },
			func() int { return p.count + r.Intn(p.data-p.count) },
			func() int { return p.data + r.Intn(n-p.data) },
			func() int { return p.data + r.Intn(n-p.data) },
		}
		for many := 1; many <= 8; many++ {
			for range 4 {
				d, from := family(t, n), byChance(t, r, n)
				var targets []int
				for _, i := range r.Perm(8)[:many] {
					targets = append(targets, kinds[i]())
				}
				slices.Sort(targets)
				var batch []api.Write
				for _, at := range slices.Compact(targets) {
					batch = append(batch, api.Write{At: at, Data: from.l[at]})
				}
				d.commit(batch...)
				check(t, d.l)
				sweep(t, d.l, 1+r.Intn(5), func(n int) [][]bool { return fewLasting(r, n) })
			}
		}
	}
}

// P6: a replay may put other bytes under an entry, or the right ones: what is judged is the disk behind it.
func TestReplayOfData(t *testing.T) {
	d := family(t, 64)
	right := d.l[29]
	d.commit(api.Write{At: 29, Data: api.Sector{'a', 'b', 'd'}})
	r := d.finds(
		f(api.FJournal, 0), f(api.FCorrupt, 0), f(api.FCrowd, 7), f(api.FDangling, 0), f(api.FDangling, 2), f(api.FDangling, 3),
		f(api.FLayer, 0), f(api.FLayer, 3), f(api.FCount, 0),
	)
	if !slices.Equal(r.Fetch, []api.Digest{keyOf("abc")}) || !slices.Equal(r.Dropped, []int{7}) {
		t.Errorf("%v", r)
	}
	is(t, d.repaired()[29], api.Sector{'a', 'b', 'd'})
	d.l[29] = api.Sector{'a', 'b', 'd'}
	d.commit(api.Write{At: 29, Data: right})
	d.finds(f(api.FJournal, 0))
	is(t, d.repaired()[29], right)
}

// P28.3: a mark of which one bit is turned is rubbish, whichever bit it is; so is one with one bit of its journal's sectors turned.
func TestEachBitOfAMark(t *testing.T) {
	d := family(t, 64)
	d.commit(api.Write{At: 12, Data: api.Sector{1}}, api.Write{At: 29, Data: api.Sector{2}})
	for bit := range 3 * 512 {
		l := slices.Clone(d.l)
		l[2+bit/512][bit%512/8] ^= 1 << (bit % 8)
		dev := deviceOf(t, l)
		r := run(t, dev, 1)
		want := slices.Clone(l)
		want[2] = api.Sector{}
		if !slices.Equal(r.Findings, []api.Finding{f(api.FJournal, 0)}) || !slices.Equal(dev.Durable(), want) {
			t.Fatalf("bit %d: %v", bit, r)
		}
		is(t, acted(dev), [3]int{64 + 9, 1, 1})
	}
}

// P28.3: the journal's sectors behind those of the batch are nobody's business.
func TestSpareJournal(t *testing.T) {
	d := family(t, 64)
	d.commit(api.Write{At: 12, Data: d.l[12]})
	noise(rand.New(rand.NewSource(71)), d.l[4:11])
	d.finds(f(api.FJournal, 0))
	is(t, firstOther(d.repaired()[3:], d.l[3:]), -1)
}

// sly is disks with a journal that holds what the run itself would write, or nearly, and a mark that fits it, or nearly: what a run writes to the journal may never make such a mark one that is committed.
func sly(t *testing.T, base *disk) map[string]*disk {
	m := map[string]*disk{}
	base.l[2] = api.Sector{}
	for i, batch := range slices.Collect(slices.Chunk(read(base.l).left(), 8)) {
		lay := func(what string, mark api.Sector, journal int) {
			d := base.copy()
			d.l[2] = mark
			for k, w := range batch[:journal] {
				d.l[3+k] = w.Data
			}
			m[fmt.Sprint("batch ", i, ": ", what)] = d
		}
		many := len(batch)
		fits := markOf(batch)
		lay("it fits", fits, many)
		lay("it will fit", fits, 0)
		lay("all but the last sector", fits, many-1)
		turned := fits
		turned[63] ^= 1
		lay("its sum is another", turned, many)
		turned = fits
		turned[40] = 1
		lay("a byte that is no zero", summed(turned), many)
		first := markOf(batch[:1])
		lay("of the first sector alone", first, 1)
		lay("of the first sector, which isn't there yet", first, 0)
		lay("of half", markOf(batch[:(many+1)/2]), 0)
		lay("with other targets", elsewhere(batch, 29), many)
		lay("with other targets, and it will fit", elsewhere(batch, 29), 0)
		lay("with targets in the head, and it will fit", elsewhere(batch, 11), 0)
		lay("with targets in the journal", elsewhere(batch, 3), many)
		lay("with targets that begin with the mark", elsewhere(batch, 2), 0)
		lay("with targets behind the disk", elsewhere(batch, 60), many)
	}
	return m
}

// elsewhere is the mark of a batch's sectors with other targets, one behind the other.
func elsewhere(batch []api.Write, from int) api.Sector {
	batch = slices.Clone(batch)
	for i := range batch {
		batch[i].At = from + i
	}
	return markOf(batch)
}

// P6: such disks, stopped ahead of every act.
func TestSlyMarks(t *testing.T) {
	full := zeros(t, 64)
	for at := range full.data {
		full.l[at] = api.Sector{byte(at), 1}
	}
	nearly := family(t, 64)
	nearly.corrupt(6, "wrong")
	nearly.tear(0)
	nearly.tear(20)
	for what, base := range map[string]*disk{"zeros": zeros(t, 64), "the whole head": full, "a family": nearly} {
		for how, d := range sly(t, base) {
			t.Run(what+", "+how, func(t *testing.T) {
				t.Parallel()
				check(t, d.l)
				r := rand.New(rand.NewSource(72))
				sweep(t, d.l, 1, func(n int) [][]bool { return fewLasting(r, n) })
				a := aimOf(d.l)
				for times := range 6 {
					a.stumble(t, r, deviceOf(t, d.l), times)
				}
			})
		}
	}
}

// P6: a mark that will fit is rubbish now: nothing of what it tells is done, also where all that a stopped run wrote lasts.
func TestRubbishIsNeverReplayed(t *testing.T) {
	base := zeros(t, 64)
	batch := read(base.l).left()
	d := base.copy()
	d.l[2] = elsewhere(batch, 40)
	for k := range len(read(d.l).acts()) {
		dev, _, e := stopped(t, d.l, k)
		is(t, e, api.ErrDown)
		dev.Restart(slices.Repeat([]bool{true}, 8)...)
		run(t, dev, 1)
		for at := 29; at < 64; at++ {
			is(t, dev.Durable()[at], api.Sector{})
		}
	}
}
