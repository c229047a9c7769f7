package batch_test

import (
	"encoding/binary"
	"fmt"
	"math"
	"math/rand"
	"slices"
	"strings"
	"testing"

	"assay/api"
	"assay/batch"
)

const (
	least    = math.MinInt
	greatest = math.MaxInt
)

// data is a sector that tells i.
func data(i int) api.Sector {
	var s api.Sector
	binary.LittleEndian.PutUint64(s[:], uint64(i))
	s[63] = byte(i)
	return s
}

// writes is one write at each of some sectors, each with data of its own.
func writes(at ...int) []api.Write {
	var l []api.Write
	for i, n := range at {
		l = append(l, api.Write{At: n, Data: data(i + 1)})
	}
	return l
}

// from is n sectors from first on, rising.
func from(first, n int) []int {
	var l []int
	for i := range n {
		l = append(l, first+i)
	}
	return l
}

// falling is a list the other way round.
func falling[T any](l []T) []T {
	l = slices.Clone(l)
	slices.Reverse(l)
	return l
}

// shuffled is a list in any order.
func shuffled[T any](r *rand.Rand, l []T) []T {
	l = slices.Clone(l)
	r.Shuffle(len(l), func(i, k int) { l[i], l[k] = l[k], l[i] })
	return l
}

// sectors is where writes go to.
func sectors(l []api.Write) []int {
	var at []int
	for _, w := range l {
		at = append(at, w.At)
	}
	return at
}

// told is batches by their sectors.
func told(batches [][]api.Write) string {
	var l []string
	for _, b := range batches {
		l = append(l, fmt.Sprint(sectors(b)))
	}
	return strings.Join(l, " ")
}

// deep is lists with all that stands in them, as memory of its own.
func deep(lists [][]api.Write) [][]api.Write {
	var l [][]api.Write
	for _, x := range lists {
		l = append(l, slices.Clone(x))
	}
	return l
}

// same tells whether two lists of lists have the same in them.
func same(a, b [][]api.Write) bool {
	return slices.EqualFunc(a, b, slices.Equal[[]api.Write])
}

// cut is Cut of some writes, behind all that P26.1, P26.3 and P26.4 say of it.
func cut(t *testing.T, l []api.Write) [][]api.Write {
	t.Helper()
	was := slices.Clone(l)
	got := batch.Cut(l)
	if want := cutOf(l); !same(got, want) {
		t.Fatalf("Cut of %v: %s, want %s", sectors(l), told(got), told(want))
	}
	checkSizes(t, got)
	if all := slices.Concat(got...); !slices.Equal(all, counted(l)) {
		t.Fatalf("Cut of %v has in all %v", sectors(l), sectors(all))
	}
	checkSteps(t, l, got)
	checkOwn(t, l)
	if !slices.Equal(l, was) {
		t.Fatalf("%v has changed", sectors(was))
	}
	return got
}

// checkSizes: all batches but the last have just eight, and that one has one to eight (P26.3).
func checkSizes(t *testing.T, batches [][]api.Write) {
	t.Helper()
	for i, b := range batches {
		if i < len(batches)-1 && len(b) != 8 || len(b) < 1 || len(b) > 8 {
			t.Fatalf("batch %d of %d has %d", i, len(batches), len(b))
		}
	}
}

// checkSteps: with the first batches done, just the others are left, and are cut as they were.
func checkSteps(t *testing.T, l []api.Write, batches [][]api.Write) {
	t.Helper()
	for k := range len(batches) + 1 {
		if k > 3 && k < len(batches)-2 {
			continue
		}
		got := batch.Left(l, batches[:k])
		if !slices.Equal(got, slices.Concat(batches[k:]...)) {
			t.Fatalf("%v, with %d batches done: %v are left", sectors(l), k, sectors(got))
		}
		if again := batch.Cut(got); !same(again, batches[k:]) {
			t.Fatalf("%v, with %d batches done: %s", sectors(l), k, told(again))
		}
	}
}

// checkOwn: each batch may be appended to and written into, and no other sees that (P26.4).
func checkOwn(t *testing.T, l []api.Write) {
	t.Helper()
	got, want := batch.Cut(l), cutOf(l)
	for i := range got {
		mine := got[i]
		for range 3 {
			mine = append(mine, api.Write{At: -7, Data: data(7)})
		}
		if !same(got, want) {
			t.Fatalf("Cut of %v: what is put behind batch %d is seen: %s", sectors(l), i, told(got))
		}
		got[i][0] = api.Write{At: -8}
		want[i][0] = api.Write{At: -8}
		if !same(got, want) {
			t.Fatalf("Cut of %v: what is put into batch %d is seen: %s", sectors(l), i, told(got))
		}
	}
}

// left is Left of some writes, behind all that P26.2 says of it.
func left(t *testing.T, l []api.Write, done ...[]api.Write) []api.Write {
	t.Helper()
	was, did := slices.Clone(l), deep(done)
	got := batch.Left(l, done)
	if want := leftOf(l, done); !slices.Equal(got, want) {
		t.Fatalf("Left of %v, with %s done: %v, want %v", sectors(l), told(done), sectors(got), sectors(want))
	}
	if !slices.Equal(l, was) || !same(done, did) {
		t.Fatalf("Left of %v: what was handed in has changed", sectors(was))
	}
	return got
}

// is holds lists of sectors against each other.
func is(t *testing.T, got []api.Write, want ...int) {
	t.Helper()
	if !slices.Equal(sectors(got), want) {
		t.Errorf("%v, want %v", sectors(got), want)
	}
}

// are holds batches against their text.
func are(t *testing.T, got [][]api.Write, want string) {
	t.Helper()
	if told(got) != want {
		t.Errorf("%s, want %s", told(got), want)
	}
}
