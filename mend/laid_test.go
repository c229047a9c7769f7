package mend_test

import (
	"math/rand"
	"slices"
	"testing"

	"assay/api"
	"assay/mend"
)

// noise fills some sectors with any bytes.
func noise(r *rand.Rand, l []api.Sector) {
	for i := range l {
		r.Read(l[i][:])
	}
}

// P24.6: a crowd, laid: those that were dropped are gone, the others stay, and nothing is dropped.
func TestACrowdThatIsLaid(t *testing.T) {
	for _, n := range sizes() {
		d := zeros(t, n)
		for at := range d.g.Slots {
			d.corrupt(at, "c")
		}
		m := d.mended()
		is(t, len(m.Dropped()), d.g.Slots-d.g.Room)
		d.l = lay(t, m)
		again := d.mended()
		drops(t, again)
		is(t, entries(again), entries(m))
		is(t, len(ask(t, again).entries), d.g.Room)
	}
}

// P24.6: what is freed lets no other one in: tags of a name, snapshots of an id, entries of a key and of a sector.
func TestWhatIsFreedLetsNobodyIn(t *testing.T) {
	for _, n := range sizes() {
		d := family(t, n)
		b := d.blob(d.at(0), "abc")
		d.tag(0, "v1", b.Key)
		d.tag(1, "v1", b.Key)
		d.tag(2, "v1", nowhere(1))
		d.snap(0, 5, 0, b.Key)
		d.snap(1, 5, 3, b.Key)
		m := d.mended()
		d.l = lay(t, m)
		w := ask(t, d.mended())
		if _, ok := w.tags[1]; ok || len(w.tags) != len(ask(t, m).tags) {
			t.Errorf("%d sectors: %v", n, w.tags)
		}
		if _, ok := w.snaps[1]; ok || len(w.snaps) != len(ask(t, m).snaps) {
			t.Errorf("%d sectors: %v", n, w.snaps)
		}
	}
}

// P24.6: where the store is laid, superblocks, journal, bitmap, counts and the data sectors of nobody may be any: the store will be the same.
func TestAnyOtherSectors(t *testing.T) {
	r := rand.New(rand.NewSource(2))
	for _, n := range sizes() {
		d := family(t, n)
		d.l = lay(t, d.mended())
		want := ask(t, d.mended())
		noise(r, d.l[0:2])
		noise(r, d.l[3:11])
		noise(r, d.l[d.g.Bitmap:d.g.Dir])
		noise(r, d.l[d.g.Count:d.g.Data])
		for at := d.g.Data; at < n; at++ {
			if !want.taken[at] {
				noise(r, d.l[at:at+1])
			}
		}
		same(t, ask(t, d.mended()), want)
		noise(r, d.l[2:3]) // a mark that is rubbish
		same(t, ask(t, d.mended()), want)
	}
}

// P24.1: the disk is judged behind its replay: with a committed mark it is mended as the disk on which the batch is done.
func TestBehindTheReplay(t *testing.T) {
	for _, n := range sizes() {
		from, to := zeros(t, n), family(t, n)
		for first := 0; first < n; first += 8 {
			var batch []api.Write
			for at := first; at < min(first+8, n); at++ {
				if at < 2 || at > 10 {
					batch = append(batch, api.Write{At: at, Data: to.l[at]})
				}
			}
			if len(batch) == 0 {
				continue
			}
			from.commit(batch...)
			im := imageOf(t, from.l)
			is(t, im.Mark(), 2)
			done := slices.Clone(from.l)
			for _, w := range batch {
				done[w.At] = w.Data
			}
			done[2] = api.Sector{}
			same(t, ask(t, mend.Of(im)), ask(t, mend.Of(imageOf(t, done))))
			if first%64 == 0 {
				check(t, from.l)
			}
			copy(from.l, done)
		}
		same(t, ask(t, from.mended()), ask(t, to.mended()))
	}
}
