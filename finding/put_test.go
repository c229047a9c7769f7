package finding_test

import (
	"math"
	"slices"
	"testing"

	"assay/api"
	"assay/finding"
)

// digests is n digests that rise, from one that begins with zeros on.
func digests(n int) []api.Digest {
	l := make([]api.Digest, n)
	for i := range l {
		l[i][0], l[i][1], l[i][31] = byte(i>>8), byte(i), byte(^i)
	}
	return l
}

// slots is the first n slots.
func slots(n int) []int {
	l := make([]int, n)
	for i := range l {
		l[i] = i
	}
	return l
}

// full is a report with n elements in each list, n at most 128.
func full(n int) api.Report {
	return api.Report{Status: api.Repaired, Findings: allFindings()[1000 : 1000+n], Fetch: digests(n), Dropped: slots(n)}
}

// The chapter's examples, byte by byte, and others worked by hand.
func TestPutByHand(t *testing.T) {
	ones, rising := api.Digest{}, api.Digest{}
	for i := range ones {
		ones[i], rising[i] = 0xFF, byte(i)
	}
	for _, c := range []struct {
		r    api.Report
		want string
	}{
		{api.Report{Status: api.Clean}, "415201 01 0000 0000 0000"},
		{api.Report{Status: api.Repaired}, "415201 02 0000 0000 0000"},
		{api.Report{Status: api.Clean, Findings: []api.Finding{}, Fetch: []api.Digest{}, Dropped: []int{}}, "415201 01 0000 0000 0000"},
		{api.Report{Status: api.Repaired, Findings: pairs(2, 0, 2, 1), Dropped: []int{5}}, "415201 02 0200 020000 020100 0000 0100 0500"},
		{api.Report{Status: api.Clean, Findings: pairs(1, 0)}, "415201 01 0100 010000 0000 0000"},
		{api.Report{Status: api.Clean, Findings: pairs(19, 1023)}, "415201 01 0100 13FF03 0000 0000"},
		{api.Report{Status: api.Clean, Findings: pairs(4, 255, 4, 256, 5, 0)}, "415201 01 0300 04FF00 040001 050000 0000 0000"},
		{api.Report{Status: api.Clean, Fetch: []api.Digest{rising}}, "415201 01 0000 0100 000102030405060708090A0B0C0D0E0F101112131415161718191A1B1C1D1E1F 0000"},
		{api.Report{Status: api.Repaired, Fetch: []api.Digest{{}, ones}}, "415201 02 0000 0200 0000000000000000000000000000000000000000000000000000000000000000 FFFFFFFFFFFFFFFFFFFFFFFFFFFFFFFFFFFFFFFFFFFFFFFFFFFFFFFFFFFFFFFF 0000"},
		{api.Report{Status: api.Clean, Dropped: []int{0, 127}}, "415201 01 0000 0000 0200 0000 7F00"},
	} {
		b, e := checkPut(t, c.r)
		if want := sealed(raw(c.want)); e != api.OK || !slices.Equal(b, want) {
			t.Errorf("Put(%v): % x, %d, want % x", c.r, b, e, want)
		}
	}
	if b, _ := finding.Put(api.Report{Status: api.Clean}); len(b) != 14 {
		t.Errorf("Put of the first example: %d bytes", len(b))
	}
	if b, _ := finding.Put(api.Report{Status: api.Repaired, Findings: pairs(2, 0, 2, 1), Dropped: []int{5}}); len(b) != 22 {
		t.Errorf("Put of the second example: %d bytes", len(b))
	}
}

// The sum, worked elsewhere: of the bytes of a clean report with nothing in it.
func TestPutSum(t *testing.T) {
	b, e := finding.Put(api.Report{Status: api.Clean})
	if want := raw(cleanBytes); e != api.OK || !slices.Equal(b, want) {
		t.Errorf("% x, %d, want % x", b, e, want)
	}
}

// Each number of elements of each list, with none, one and several in the others.
func TestPutLengths(t *testing.T) {
	for n := range 129 {
		all := full(n)
		for _, r := range []api.Report{
			{Status: 1, Findings: all.Findings},
			{Status: 2, Fetch: all.Fetch},
			{Status: 1, Dropped: all.Dropped},
			{Status: 2, Findings: all.Findings, Fetch: digests(1), Dropped: slots(2)},
			{Status: 1, Findings: pairs(7, 7), Fetch: all.Fetch, Dropped: slots(3)},
			{Status: 2, Findings: pairs(7, 7, 8, 6), Fetch: digests(3), Dropped: all.Dropped},
			all,
		} {
			b, e := checkPut(t, r)
			if want := 14 + 3*len(r.Findings) + 32*len(r.Fetch) + 2*len(r.Dropped); e != api.OK || len(b) != want {
				t.Fatalf("Put(%v): %d bytes, %d, want %d", r, len(b), e, want)
			}
		}
	}
	checkPut(t, api.Report{Status: 1, Findings: allFindings(), Fetch: digests(300), Dropped: slots(128)})
}

// numbers is some about 0 and about the ends of ranges, of bytes, and of all numbers; many of them are another one in their lowest byte or two.
func numbers() []int {
	l := []int{math.MinInt, math.MinInt + 1, math.MinInt + 2, math.MaxInt, math.MaxInt - 1}
	for _, about := range []int{-1 << 62, -1 << 32, -1 << 16, -1 << 8, 0, 19, 127, 1 << 8, 1023, 1 << 16, 1 << 31, 1 << 32, 1 << 62} {
		for i := -3; i <= 3; i++ {
			l = append(l, about+i)
		}
	}
	return l
}

// P22.2: the status.
func TestPutStatus(t *testing.T) {
	for _, status := range append(numbers(), slots(300)...) {
		want := api.ErrArg
		if status == api.Clean || status == api.Repaired {
			want = api.OK
		}
		for _, r := range []api.Report{{}, full(1), full(3)} {
			r.Status = status
			if _, e := checkPut(t, r); e != want {
				t.Errorf("status %d: %d, want %d", status, e, want)
			}
		}
	}
}

// P22.2: kinds, Ats and slots at the ends of their ranges and beyond, as the first one and behind others.
func TestPutRanges(t *testing.T) {
	for _, v := range append(numbers(), slots(1100)...) {
		for _, c := range []struct {
			l     []api.Finding
			least int
			most  int
		}{
			{pairs(v, 0), 1, 19},
			{pairs(v, 1023), 1, 19},
			{pairs(1, v), 0, 1023},
			{pairs(19, v), 0, 1023},
			{pairs(1, 0, v, 1), 1, 19},
			{pairs(1, 0, 2, v), 0, 1023},
		} {
			want := api.OK
			if v < c.least || v > c.most {
				want = api.ErrRange
			}
			if _, e := checkPut(t, api.Report{Status: 1, Findings: c.l}); e != want {
				t.Errorf("findings %v: %d, want %d", c.l, e, want)
			}
		}
		want := api.OK
		if v < 0 || v > 127 {
			want = api.ErrRange
		}
		if _, e := checkPut(t, api.Report{Status: 2, Dropped: []int{v}}); e != want {
			t.Errorf("slot %d: %d, want %d", v, e, want)
		}
		if v == 0 {
			want = api.ErrForm
		}
		if _, e := checkPut(t, api.Report{Status: 2, Dropped: []int{0, v}}); e != want {
			t.Errorf("slots 0, %d: %d, want %d", v, e, want)
		}
	}
}

// P22.2: of many elements, two neighbours at any place that are the same, or fall.
func TestPutNeighbours(t *testing.T) {
	for n := 2; n <= 9; n++ {
		for i := 1; i < n; i++ {
			for _, swap := range []bool{false, true} {
				turn(t, i, swap, full(n), func(r *api.Report) []api.Finding { return r.Findings })
				turn(t, i, swap, full(n), func(r *api.Report) []api.Digest { return r.Fetch })
				turn(t, i, swap, full(n), func(r *api.Report) []int { return r.Dropped })
			}
		}
	}
	// The last byte alone, and the first byte alone.
	for i := range 32 {
		var low, high api.Digest
		low[i], high[i] = 1, 2
		for _, c := range []struct {
			l    []api.Digest
			want api.Errno
		}{
			{[]api.Digest{low, high}, api.OK},
			{[]api.Digest{{}, low, high}, api.OK},
			{[]api.Digest{high, low}, api.ErrForm},
			{[]api.Digest{low, low}, api.ErrForm},
			{[]api.Digest{low, {}}, api.ErrForm},
			{[]api.Digest{low, high, high}, api.ErrForm},
		} {
			if _, e := checkPut(t, api.Report{Status: 1, Fetch: c.l}); e != c.want {
				t.Errorf("%v: %d, want %d", c.l, e, c.want)
			}
		}
	}
	// The kind goes first, then the At.
	for _, l := range [][]api.Finding{pairs(2, 1, 2, 0), pairs(2, 0, 2, 0), pairs(3, 0, 2, 1023), pairs(19, 1023, 1, 0), pairs(4, 256, 4, 255)} {
		if _, e := checkPut(t, api.Report{Status: 1, Findings: l}); e != api.ErrForm {
			t.Errorf("%v: %d", l, e)
		}
	}
}

// turn makes the element i of a report's list the same as the one before it, or swaps the two, and asks what Put says.
func turn[E any](t *testing.T, i int, swap bool, r api.Report, of func(r *api.Report) []E) {
	t.Helper()
	l := of(&r)
	before := l[i-1]
	if swap {
		l[i-1] = l[i]
	}
	l[i] = before
	if _, e := checkPut(t, r); e != api.ErrForm {
		t.Errorf("Put(%v): %d", r, e)
	}
}

// P22.2: lists of the greatest number of elements, and of one more.
func TestPutLong(t *testing.T) {
	many := digests(65535)
	b, e := checkPut(t, api.Report{Status: 1, Fetch: many})
	if e != api.OK || len(b) != 14+32*65535 || b[6] != 0xFF || b[7] != 0xFF {
		t.Errorf("65535 digests: %d bytes, %d", len(b), e)
	}
	checkPut(t, api.Report{Status: 2, Findings: allFindings(), Fetch: many, Dropped: slots(128)})
	zero, same, none := make([]api.Finding, 65536), make([]api.Digest, 65536), make([]int, 65536)
	ones := slices.Repeat(pairs(1, 0), 65536)
	for i, c := range []struct {
		r    api.Report
		want api.Errno
	}{
		{api.Report{Status: 1, Findings: zero[1:]}, api.ErrRange},
		{api.Report{Status: 1, Findings: ones[1:]}, api.ErrForm},
		{api.Report{Status: 1, Fetch: same[1:]}, api.ErrForm},
		{api.Report{Status: 1, Dropped: none[1:]}, api.ErrForm},
		{api.Report{Status: 1, Findings: ones}, api.ErrLong},
		{api.Report{Status: 1, Findings: zero}, api.ErrLong},
		{api.Report{Status: 1, Fetch: same}, api.ErrLong},
		{api.Report{Status: 1, Fetch: append(digests(65535), api.Digest{0xFF, 0xFF, 0xFF})}, api.ErrLong},
		{api.Report{Status: 1, Dropped: none}, api.ErrLong},
		{api.Report{Status: 1, Findings: ones, Fetch: same, Dropped: none}, api.ErrLong},
		{api.Report{Status: 1, Findings: pairs(0, 0), Fetch: same}, api.ErrLong}, // ahead of what stands in the lists
		{api.Report{Status: 1, Findings: pairs(2, 0, 1, 0), Dropped: none}, api.ErrLong},
		{api.Report{Status: 1, Fetch: same[:2], Dropped: none}, api.ErrLong},
		{api.Report{Status: 1, Findings: zero, Dropped: []int{-1}}, api.ErrLong},
		{api.Report{Status: 3, Findings: ones}, api.ErrArg}, // behind the status
		{api.Report{Status: 0, Fetch: same}, api.ErrArg},
		{api.Report{Status: -1, Dropped: none}, api.ErrArg},
		{api.Report{Status: 1, Findings: make([]api.Finding, 131072)}, api.ErrLong}, // its two lowest bytes are zeros
		{api.Report{Status: 1, Fetch: make([]api.Digest, 131072)}, api.ErrLong},
		{api.Report{Status: 1, Dropped: make([]int, 131072)}, api.ErrLong},
	} {
		if _, e := checkPut(t, c.r); e != c.want {
			t.Errorf("row %d: %d, want %d", i, e, c.want)
		}
	}
}

// P4: where several things are wrong, the first in the chapter's order is told.
func TestPutSeveralFaults(t *testing.T) {
	d1, d2 := api.Digest{1}, api.Digest{2}
	for i, c := range []struct {
		r    api.Report
		want api.Errno
	}{
		{api.Report{Status: 3, Findings: pairs(20, 0)}, api.ErrArg},
		{api.Report{Status: 0, Findings: pairs(2, 1, 2, 0), Fetch: []api.Digest{d2, d1}, Dropped: []int{128}}, api.ErrArg},
		{api.Report{Status: 1, Findings: pairs(20, 0, 20, 0)}, api.ErrRange},
		{api.Report{Status: 1, Findings: pairs(2, 1, 2, 0, 20, 0)}, api.ErrForm},  // finding by finding
		{api.Report{Status: 1, Findings: pairs(2, 0, 20, 0, 1, 0)}, api.ErrRange}, // likewise
		{api.Report{Status: 1, Findings: pairs(2, 1, 0, 0)}, api.ErrRange},        // of one finding, its range goes first
		{api.Report{Status: 1, Findings: pairs(2, 1, 2, -1)}, api.ErrRange},       // likewise
		{api.Report{Status: 1, Findings: pairs(2, 1, 1, 1024)}, api.ErrRange},     // likewise
		{api.Report{Status: 1, Findings: pairs(2, 1, 2, 1), Dropped: []int{128}}, api.ErrForm},
		{api.Report{Status: 1, Findings: pairs(2, 1, 3, 1024), Fetch: []api.Digest{d2, d1}}, api.ErrRange},
		{api.Report{Status: 1, Fetch: []api.Digest{d2, d1}, Dropped: []int{128}}, api.ErrForm}, // digests ahead of slots
		{api.Report{Status: 1, Fetch: []api.Digest{d1, d1}, Dropped: []int{-1}}, api.ErrForm},
		{api.Report{Status: 1, Fetch: []api.Digest{d1, d2}, Dropped: []int{-1}}, api.ErrRange},
		{api.Report{Status: 1, Dropped: []int{5, 5, 128}}, api.ErrForm}, // slot by slot
		{api.Report{Status: 1, Dropped: []int{5, 128, 5}}, api.ErrRange},
		{api.Report{Status: 1, Dropped: []int{5, -1}}, api.ErrRange}, // of one slot, its range goes first
		{api.Report{Status: 1, Dropped: []int{5, 4, -1}}, api.ErrForm},
	} {
		if _, e := checkPut(t, c.r); e != c.want {
			t.Errorf("row %d: %v: %d, want %d", i, c.r, e, c.want)
		}
	}
}
