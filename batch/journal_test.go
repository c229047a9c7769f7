package batch_test

import (
	"math/rand"
	"slices"
	"testing"

	"assay/api"
	"assay/batch"
	"assay/device"
	"assay/geom"
	"assay/journal"
	"assay/lay"
	"assay/mark"
)

// differ is what of some sectors is to be written.
func differ(t *testing.T, l []api.Sector) []api.Write {
	t.Helper()
	todo, e := lay.Differ(l)
	if e != api.OK {
		t.Fatal(e)
	}
	return todo
}

// noise is a disk of n sectors by chance.
func noise(r *rand.Rand, n int) []api.Sector {
	l := make([]api.Sector, n)
	for i := range l {
		r.Read(l[i][:])
	}
	return l
}

// P10: the journal takes each batch of what differs, and behind each one just Left is to be written still.
func TestTheJournalTakesEach(t *testing.T) {
	r := rand.New(rand.NewSource(40))
	for _, n := range []int{64, 72, 481, 1024} {
		for _, disk := range [][]api.Sector{make([]api.Sector, n), noise(r, n)} {
			d, e := device.New(disk)
			if e != api.OK {
				t.Fatal(e)
			}
			if _, e := journal.Replay(d); e != api.OK {
				t.Fatal(e)
			}
			todo := differ(t, d.Durable())
			batches := cut(t, todo)
			for k, b := range batches {
				if e := journal.Do(d, b); e != api.OK {
					t.Fatalf("%d sectors: batch %d: %d", n, k, e)
				}
				if got := differ(t, d.Durable()); !slices.Equal(got, left(t, todo, batches[:k+1]...)) {
					t.Fatalf("%d sectors, behind batch %d: %d differ", n, k, len(got))
				}
			}
		}
	}
}

// Of sectors that a batch may have as targets, in whatever order, each batch has a mark.
func TestEachHasAMark(t *testing.T) {
	r := rand.New(rand.NewSource(41))
	for _, n := range []int{64, 1024} {
		g, e := geom.Of(n)
		if e != api.OK {
			t.Fatal(e)
		}
		targets := slices.DeleteFunc(from(0, n), func(at int) bool { return !g.Target(at) })
		for _, at := range orders(r, append(slices.Clone(targets), targets[:n/2]...)) {
			for k, b := range batch.Cut(writes(at...)) {
				if _, e := mark.Put(b, n); e != api.OK {
					t.Fatalf("%d sectors: batch %d, %v: %d", n, k, sectors(b), e)
				}
			}
		}
	}
}
