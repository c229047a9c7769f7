package lay_test

import (
	"math/rand"
	"slices"
	"testing"

	"assay/api"
	"assay/lay"
)

// P25.3: where the store is laid already, nothing differs, whatever the journal and the free sectors have.
func TestNothingDiffers(t *testing.T) {
	for _, n := range sizes() {
		house(t, n).differs()
		zeros(t, n).repair().differs()
		d := zeros(t, n)
		noise(rand.New(rand.NewSource(20)), d.l)
		d.repair().differs()
	}
}

// P25.3: one sector of each table is another: just that one is told.
func TestOneSectorOfEachTable(t *testing.T) {
	r := rand.New(rand.NewSource(21))
	for _, n := range sizes() {
		d := house(t, n)
		alone := []int{0, 1, d.g.Dir + d.at(7), d.g.Tag + 1, d.g.Snap + 2} // superblocks, and slots that are free
		for i := range d.g.Bitmaps {
			alone = append(alone, d.g.Bitmap+i)
		}
		for i := range d.g.Counts {
			alone = append(alone, d.g.Count+i)
		}
		for _, at := range alone {
			was := d.l[at]
			for range 3 {
				noise(r, d.l[at:at+1])
				d.differs(at)
				is(t, d.differ()[0], api.Write{At: at, Data: was})
				d.l[at] = was
				d.l[at][r.Intn(64)] ^= 1 << r.Intn(8)
				d.differs(at)
				d.l[at] = was
			}
		}
	}
}

// P25.3: one bit and one count that are wrong, with their sums right: just their sectors are told.
func TestOneBitAndOneCount(t *testing.T) {
	r := rand.New(rand.NewSource(22))
	for _, n := range sizes() {
		d := house(t, n)
		for _, bit := range []int{0, d.g.Data - 1, d.g.Data, n / 2, n - 1} {
			at := d.g.Bitmap + bit/480
			was := d.l[at]
			d.l[at][bit%480/8] ^= 1 << (bit % 8)
			d.l[at] = summed(d.l[at])
			d.differs(at)
			is(t, d.differ()[0].Data, was)
			d.l[at] = was
		}
		for _, slot := range []int{0, d.g.Slots / 2, d.g.Slots - 1} {
			at := d.g.Count + slot/15
			was := d.l[at]
			d.l[at][slot%15*4+r.Intn(4)]++
			d.l[at] = summed(d.l[at])
			d.differs(at)
			is(t, d.differ()[0].Data, was)
			d.l[at] = was
		}
	}
}

// P25.3: wherever a bit of the head is turned, that sector is told, by rising places with what else then differs; but none of the mark or the journal.
func TestEachSectorOfTheHead(t *testing.T) {
	r := rand.New(rand.NewSource(23))
	for _, n := range sizes() {
		d := house(t, n)
		for at := range d.g.Data {
			bit := r.Intn(512)
			d.l[at][bit/8] ^= 1 << (bit % 8)
			got := places(differ(t, d.l))
			switch {
			case at < 2 || at > 10:
				is(t, slices.Contains(got, at), true)
			default:
				is(t, len(got), 0)
			}
			if at%5 == 0 {
				check(t, d.l)
			}
			d.l[at][bit/8] ^= 1 << (bit % 8)
		}
	}
}

// P25.3, P25.4: a data sector that is another: of a good entry its slot differs, and what hangs on it; of a free sector nothing.
func TestEachDataSector(t *testing.T) {
	for _, n := range few() {
		d := house(t, n)
		im := imageOf(t, d.l)
		for at := d.g.Data; at < n; at++ {
			d.l[at][0] ^= 1
			taken := -1
			for slot := range d.g.Slots {
				if e, _ := im.Entry(slot); e.State == api.Live && e.Start <= at && 64*(at-e.Start) < e.Length {
					taken = d.g.Dir + slot
				}
			}
			got := places(differ(t, d.l))
			is(t, taken >= 0, len(got) > 0)
			if taken >= 0 {
				is(t, slices.Contains(got, taken), true)
				check(t, d.l)
			}
			d.l[at][0] ^= 1
		}
	}
}

// P25.3: with a committed mark what differs is told of D0: a target in the head that is put right by the replay isn't told, one that is made wrong is; a target in the data changes what its entry comes to.
func TestTargetsOfABatch(t *testing.T) {
	for _, n := range sizes() {
		d := house(t, n)
		right := d.l[d.g.Count]
		d.l[d.g.Count] = api.Sector{9}
		d.differs(d.g.Count)
		d.commit(api.Write{At: d.g.Count, Data: right})
		d.differs()
		d.commit(api.Write{At: 1, Data: api.Sector{1}}, api.Write{At: d.g.Count, Data: right})
		d.differs(1)
		d.commit(api.Write{At: 0, Data: d.l[0]}, api.Write{At: d.g.Count, Data: api.Sector{8}}, api.Write{At: n - 1, Data: api.Sector{8}})
		d.differs(d.g.Count)

		d = house(t, n)
		d.commit(api.Write{At: d.g.Data, Data: api.Sector{'a', 'b', 'd'}}) // the blob that all others name
		got := d.differ()
		slot := slices.IndexFunc(got, func(w api.Write) bool { return w.At == d.g.Dir })
		is(t, slot >= 0 && got[slot].Data[1] == api.Quarantined, true)
		was := d.copy()
		was.l = written(imageOf(t, d.l).Sectors())
		is(t, slices.Equal(was.differ(), got), true)
		d.l[2][20] ^= 1 // rubbish: the blob is as it was
		d.differs()
	}
}

// P25.3: with a mark that is empty, committed or rubbish no write is to the mark or the journal, nor to a data sector.
func TestNoWriteOutside(t *testing.T) {
	r := rand.New(rand.NewSource(24))
	for _, n := range sizes() {
		for range 4 {
			d := byChance(t, r, n)
			d.anyMark(r)
			for _, w := range d.differ() {
				if w.At < 0 || w.At >= 2 && w.At <= 10 || w.At >= d.g.Data {
					t.Fatalf("%d sectors: a write to %d", n, w.At)
				}
			}
		}
	}
}

// left holds what is told where some of the writes are laid: each beginning of them, each one alone, and all but one.
func (d *disk) left(step int) {
	d.t.Helper()
	writes := d.differ()
	for k := 0; k <= len(writes); k += step {
		checkLeft(d.t, d.l, writes, func(i int) bool { return i < k })
		checkLeft(d.t, d.l, writes, func(i int) bool { return i == k })
		checkLeft(d.t, d.l, writes, func(i int) bool { return i != k })
	}
	checkLeft(d.t, d.l, writes, func(int) bool { return true })
}

// P25.4: where some of the writes are laid first, just the others are told.
func TestWhatIsLeft(t *testing.T) {
	for _, n := range sizes() {
		family(t, n).left(1)
		zeros(t, n).left(1)
		d := family(t, n)
		for at := range d.g.Slots {
			if d.l[d.g.Dir+at] == (api.Sector{}) {
				d.corrupt(at, "crowd")
			}
		}
		d.left(1 + n/100)
		d.commit(api.Write{At: d.g.Dir, Data: api.Sector{1}}, api.Write{At: n - 1, Data: api.Sector{1}})
		d.left(1 + n/100)
	}
}

// P25.4: the same with any of the writes laid, of disks by chance, with any mark.
func TestAnyOfThemLaid(t *testing.T) {
	r := rand.New(rand.NewSource(25))
	for _, n := range sizes() {
		for range 3 {
			d := byChance(t, r, n)
			d.anyMark(r)
			d.left(1 + n/50)
			writes := d.differ()
			for range 4 {
				many := 1 + r.Intn(9)
				laid := make([]bool, len(writes))
				for i := range laid {
					laid[i] = r.Intn(10) < many
				}
				checkLeft(t, d.l, writes, func(i int) bool { return laid[i] })
			}
		}
	}
}

// P3: the same disk, asked again, tells the same; so does one that differs from it in nothing that D0 has.
func TestTheSameAgain(t *testing.T) {
	r := rand.New(rand.NewSource(26))
	for _, n := range few() {
		d := byChance(t, r, n)
		d.anyMark(r)
		want := d.differ()
		for range 3 {
			got, e := lay.Differ(slices.Clone(d.l))
			if e != api.OK || !slices.Equal(got, want) {
				t.Fatalf("%d sectors: %v, %d", n, places(got), e)
			}
		}
		if got := differ(t, imageOf(t, d.l).Sectors()); !slices.Equal(got, want) {
			t.Fatalf("%d sectors, replayed: %v, want %v", n, places(got), places(want))
		}
	}
}
