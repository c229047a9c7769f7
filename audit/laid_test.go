package audit_test

import (
	"math/rand"
	"slices"
	"testing"

	"assay/api"
)

// noise fills some sectors with any bytes.
func noise(r *rand.Rand, l []api.Sector) {
	for i := range l {
		r.Read(l[i][:])
	}
}

// P23.4: what a disk's journal has, while its mark is empty, is nobody's business.
func TestAnyJournal(t *testing.T) {
	r := rand.New(rand.NewSource(1))
	for _, n := range sizes() {
		d := family(t, n)
		noise(r, d.l[3:11])
		d.finds()
		d.commit(api.Write{At: 0, Data: api.Sector{1}}, api.Write{At: n - 1, Data: api.Sector{1}})
		d.l[2] = api.Sector{}
		d.finds()
	}
}

// P23.4: any data sectors: what they hold behind a good entry's last byte, in a quarantined entry and where nobody is, is nobody's business; a good entry's bytes are.
func TestAnyData(t *testing.T) {
	r := rand.New(rand.NewSource(2))
	for _, n := range sizes() {
		d := zeros(t, n)
		noise(r, d.l[d.g.Data:])
		copy(d.l, family(t, n).l[:d.g.Data])
		d.mend().finds() // nearly all of it is kept in quarantine, or lost
		d = family(t, n)
		owned := map[int]int{}
		for at := range d.g.Slots {
			if e, _ := d.image().Entry(at); e.State == api.Live {
				for i := range e.Length {
					owned[64*e.Start+i] = at
				}
			}
		}
		for at := 64 * d.g.Data; at < 64*n; at += 1 + r.Intn(90) {
			b := &d.l[at/64][at%64]
			was := *b
			*b ^= 1 << r.Intn(8)
			slot, is := owned[at]
			if got := found(t, d.image(), 1+at%8); is != slices.Contains(got, f(api.FCorrupt, slot)) || !is && len(got) > 0 {
				t.Fatalf("%d sectors, byte %d of sector %d, of a good entry %v: %v", n, at%64, at/64, is, got)
			}
			if is {
				*b = was
			}
		}
		d.finds()
	}
}

// P23.4: wherever a bit of the head is turned, but in the journal, something is found.
func TestEachBitOfTheHead(t *testing.T) {
	r := rand.New(rand.NewSource(3))
	for _, n := range sizes() {
		d := family(t, n)
		for at := range d.g.Data {
			if at >= 3 && at <= 10 {
				continue
			}
			for range 2 {
				bit := r.Intn(512)
				d.l[at][bit/8] ^= 1 << (bit % 8)
				if got := found(t, d.image(), 1+bit%8); len(got) == 0 {
					t.Fatalf("%d sectors, bit %d of sector %d: nothing is found", n, bit, at)
				}
				d.l[at][bit/8] ^= 1 << (bit % 8)
			}
		}
		d.finds()
	}
	d := family(t, 64)
	for bit := range 512 * d.g.Data {
		at := bit / 512
		d.l[at][bit/8%64] ^= 1 << (bit % 8)
		if got := found(t, d.image(), 1); len(got) == 0 != (at >= 3 && at <= 10) {
			t.Fatalf("bit %d of sector %d: %v", bit%512, at, got)
		}
		d.l[at][bit/8%64] ^= 1 << (bit % 8)
	}
}

// P23.4: any sector of the head made zeros, or another one's: nothing is found just if the disk is the store as it will be all the same.
func TestSectorsThatChangePlaces(t *testing.T) {
	r := rand.New(rand.NewSource(4))
	for _, n := range sizes() {
		was := family(t, n).l
		for range 30 {
			l := slices.Clone(was)
			at := r.Intn(len(l))
			switch r.Intn(3) {
			case 0:
				l[at] = api.Sector{}
			case 1:
				other := r.Intn(len(l))
				l[at], l[other] = l[other], l[at]
			case 2:
				l[at] = l[r.Intn(len(l))]
			}
			check(t, l)
		}
	}
}

// P23.4: a store in which things are gone, or stand in other slots, is a store like others.
func TestOtherStores(t *testing.T) {
	for _, n := range sizes() {
		d := family(t, n)
		d.l[d.g.Tag], d.l[d.g.Tag+2] = d.l[d.g.Tag+2], d.l[d.g.Tag]
		d.finds()
		d.l[d.g.Snap], d.l[d.g.Snap+2] = d.l[d.g.Snap+2], d.l[d.g.Snap]
		d.finds()
		d.l[d.g.Dir+d.at(0)], d.l[d.g.Dir+d.at(3)] = d.l[d.g.Dir+d.at(3)], d.l[d.g.Dir+d.at(0)]
		d.finds(f(api.FCount, d.at(0)), f(api.FCount, d.at(3)))
		d.settle().finds()
		d.l[d.g.Tag+d.g.Tags-1] = api.Sector{}
		d.finds()
		d.l[d.g.Snap+d.g.Snaps-1] = api.Sector{}
		d.finds()
		d.l[d.g.Dir+d.at(0)] = api.Sector{} // the quarantined one
		d.finds(f(api.FBit, d.next-1))
		d.settle().finds()
	}
}
