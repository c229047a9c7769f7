package batch_test

import (
	"fmt"
	"math/rand"
	"testing"

	"assay/api"
)

// anyWrites is up to n writes at sectors of some kind, with data of few kinds.
func anyWrites(r *rand.Rand, n int, sector func() int) []api.Write {
	var l []api.Write
	for range r.Intn(n + 1) {
		l = append(l, api.Write{At: sector(), Data: data(r.Intn(4))})
	}
	return l
}

// kinds is ways to choose a sector: of few, of a disk's, of all numbers, of the edges.
func kinds(r *rand.Rand) []func() int {
	edges := []int{least, least + 1, -1 << 32, -2, -1, 0, 1, 2, 63, 64, 1023, 1024, 1 << 32, greatest - 1, greatest}
	return []func() int{
		func() int { return r.Intn(12) },
		func() int { return r.Intn(40) - 20 },
		func() int { return r.Intn(1024) },
		func() int { return int(r.Uint64()) },
		func() int { return edges[r.Intn(len(edges))] },
	}
}

// All promises, on writes by chance.
func TestByChance(t *testing.T) {
	for seed := range 12 {
		t.Run(fmt.Sprint(seed), func(t *testing.T) {
			t.Parallel()
			r := rand.New(rand.NewSource(int64(seed)))
			for range 60 {
				for _, sector := range kinds(r) {
					l := anyWrites(r, 1+r.Intn(70), sector)
					batches := cut(t, l)
					var done [][]api.Write
					for range r.Intn(6) {
						done = append(done, anyWrites(r, 12, sector))
					}
					left(t, l, done...)
					left(t, l, append(done, batches[:r.Intn(len(batches)+1)]...)...)
				}
			}
		})
	}
}

// A disk's most writes, each sector several times: still each once, by eights.
func TestMany(t *testing.T) {
	r := rand.New(rand.NewSource(20))
	var at []int
	for range 3 {
		at = append(at, from(0, 1024)...)
	}
	l := writes(shuffled(r, at)...)
	if got := cut(t, l); len(got) != 128 {
		t.Errorf("%d batches", len(got))
	}
	is(t, left(t, l, writes(from(8, 1010)...)), 0, 1, 2, 3, 4, 5, 6, 7, 1018, 1019, 1020, 1021, 1022, 1023)
}
