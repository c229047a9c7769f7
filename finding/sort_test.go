package finding_test

import (
	"math"
	"math/rand"
	"slices"
	"testing"

	"assay/api"
	"assay/finding"
)

// pairs is findings by their kinds and Ats, one behind the other.
func pairs(numbers ...int) []api.Finding {
	var l []api.Finding
	for i := 0; i < len(numbers); i += 2 {
		l = append(l, api.Finding{Kind: numbers[i], At: numbers[i+1]})
	}
	return l
}

// checkSort holds Sort against P22.1's words: all that were there, no other, each behind the one before it.
func checkSort(t *testing.T, l []api.Finding) []api.Finding {
	t.Helper()
	got := finding.Sort(l...)
	for i := range got {
		if i > 0 && !less(got[i-1], got[i]) {
			t.Fatalf("Sort(%v): %v: place %d", l, got, i)
		}
		if !slices.Contains(l, got[i]) {
			t.Fatalf("Sort(%v): %v: %v was not there", l, got, got[i])
		}
	}
	for _, f := range l {
		if !slices.Contains(got, f) {
			t.Fatalf("Sort(%v): %v: %v is lost", l, got, f)
		}
	}
	return got
}

// permutations goes through all orders of a list.
func permutations(l []api.Finding, see func([]api.Finding)) {
	var swap func(i int)
	swap = func(i int) {
		if i == len(l) {
			see(l)
			return
		}
		for j := i; j < len(l); j++ {
			l[i], l[j] = l[j], l[i]
			swap(i + 1)
			l[i], l[j] = l[j], l[i]
		}
	}
	swap(0)
}

func TestSortByHand(t *testing.T) {
	least, most := math.MinInt, math.MaxInt
	for _, c := range []struct{ l, want []api.Finding }{
		{nil, nil},
		{[]api.Finding{}, nil},
		{pairs(2, 1, 1, 0, 2, 1), pairs(1, 0, 2, 1)}, // the chapter's example
		{pairs(0, 0), pairs(0, 0)},
		{pairs(7, 3, 7, 3), pairs(7, 3)},
		{pairs(7, 3, 7, 3, 7, 3, 7, 3, 7, 3), pairs(7, 3)},
		{pairs(3, 5, 2, 5, 1, 5), pairs(1, 5, 2, 5, 3, 5)}, // the Kind alone
		{pairs(5, 3, 5, 2, 5, 1), pairs(5, 1, 5, 2, 5, 3)}, // the At alone
		{pairs(2, 0, 1, 1023), pairs(1, 1023, 2, 0)},       // the Kind goes first
		{pairs(1, 0, 0, 1, 0, 0, 1, 1, 0, 1, 1, 0), pairs(0, 0, 0, 1, 1, 0, 1, 1)},
		{pairs(19, 1, -19, 1, 0, 1, 20, 1, -20, 1), pairs(-20, 1, -19, 1, 0, 1, 19, 1, 20, 1)},
		{pairs(1, 1, 1, -1, 1, 0, 1, 1024, 1, -1024), pairs(1, -1024, 1, -1, 1, 0, 1, 1, 1, 1024)},
		{pairs(most, 0, least, 0, 0, 0, 1, 0, -1, 0), pairs(least, 0, -1, 0, 0, 0, 1, 0, most, 0)},
		{pairs(0, most, 0, least, 0, 0, 0, 1, 0, -1), pairs(0, least, 0, -1, 0, 0, 0, 1, 0, most)},
		{pairs(most, least, least, most, most, most, least, least), pairs(least, least, least, most, most, least, most, most)},
		{pairs(1<<32, 0, 1, 0, 1<<32+1, 0, 257, 0), pairs(1, 0, 257, 0, 1<<32, 0, 1<<32+1, 0)},
		{pairs(1, 1<<32, 1, 1, 1, 65537, 1, 257), pairs(1, 1, 1, 257, 1, 65537, 1, 1<<32)},
	} {
		if got := checkSort(t, c.l); !slices.Equal(got, c.want) {
			t.Errorf("Sort(%v): %v, want %v", c.l, got, c.want)
		}
	}
	if got := finding.Sort(); len(got) != 0 {
		t.Errorf("Sort(): %v", got)
	}
	if got := finding.Sort(api.Finding{Kind: 2, At: 1}, api.Finding{Kind: 1}); !slices.Equal(got, pairs(1, 0, 2, 1)) {
		t.Errorf("Sort of two: %v", got)
	}
}

// In any order, and with some of them twice, the same comes out.
func TestSortInAnyOrder(t *testing.T) {
	l := pairs(1, 2, 2, 1, 2, 1, math.MinInt, 4, 2, math.MaxInt, -1, 2, 1, 2)
	want := pairs(math.MinInt, 4, -1, 2, 1, 2, 2, 1, 2, math.MaxInt)
	permutations(l, func(l []api.Finding) {
		if got := checkSort(t, l); !slices.Equal(got, want) {
			t.Fatalf("Sort(%v): %v", l, got)
		}
	})
}

// All short lists of findings with numbers at the ends of all numbers.
func TestSortAllShortLists(t *testing.T) {
	var kinds []api.Finding
	for _, kind := range []int{math.MinInt, 0, math.MaxInt} {
		for _, at := range []int{math.MinInt, -1, math.MaxInt} {
			kinds = append(kinds, api.Finding{Kind: kind, At: at})
		}
	}
	var fill func(l []api.Finding, n int)
	fill = func(l []api.Finding, n int) {
		checkSort(t, l)
		if n == 0 {
			return
		}
		for _, f := range kinds {
			fill(append(l, f), n-1)
		}
	}
	fill(nil, 4)
}

// Lists by chance, short and long, from numbers that stand often to numbers that hardly stand twice.
func TestSortByChance(t *testing.T) {
	r := rand.New(rand.NewSource(1))
	for range 2000 {
		l := make([]api.Finding, r.Intn(60))
		spread := 1 + r.Intn(40)
		for i := range l {
			l[i] = api.Finding{Kind: r.Intn(spread) - spread/2, At: r.Intn(spread) - spread/2}
			if r.Intn(9) == 0 {
				l[i].Kind = int(r.Uint64())
			}
			if r.Intn(9) == 0 {
				l[i].At = int(r.Uint64())
			}
		}
		checkSort(t, l)
	}
}

// All findings that a report may hold, many times, mixed: each comes once, in order.
func TestSortAllFindings(t *testing.T) {
	want := allFindings()
	r := rand.New(rand.NewSource(2))
	l := slices.Concat(want, want, want)
	r.Shuffle(len(l), func(i, j int) { l[i], l[j] = l[j], l[i] })
	if got := finding.Sort(l...); !slices.Equal(got, want) {
		t.Errorf("%d of %d findings", len(got), len(want))
	}
	slices.Reverse(want)
	got := finding.Sort(want...)
	slices.Reverse(want)
	if !slices.Equal(got, want) {
		t.Errorf("%d of %d findings the other way round", len(got), len(want))
	}
}

// allFindings is all that may stand in a report, in order.
func allFindings() []api.Finding {
	var l []api.Finding
	for kind := 1; kind <= 19; kind++ {
		for at := range 1024 {
			l = append(l, api.Finding{Kind: kind, At: at})
		}
	}
	return l
}
