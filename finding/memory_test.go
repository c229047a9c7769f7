package finding_test

import (
	"math/rand"
	"slices"
	"sync"
	"testing"

	"assay/api"
	"assay/finding"
)

// scribble writes into a list and behind it, and appends to it, as a caller may.
func scribble[T any](l []T, v T) {
	l = append(l, v)
	l = l[:cap(l)]
	for i := range l {
		l[i] = v
	}
}

// scribbles is a scribble for each list of a report.
func scribbles(r api.Report) []func() {
	return []func(){
		func() { scribble(r.Findings, api.Finding{Kind: -7, At: -8}) },
		func() { scribble(r.Fetch, api.Digest{0xEE, 31: 0xEE}) },
		func() { scribble(r.Dropped, -9) },
	}
}

// but is a report with one list, by its number, of another one.
func but(r, of api.Report, i int) api.Report {
	switch i {
	case 0:
		r.Findings = of.Findings
	case 1:
		r.Fetch = of.Fetch
	case 2:
		r.Dropped = of.Dropped
	}
	return r
}

// several is reports with all mixtures of some numbers of elements, so that some lists have room behind them when they are read.
func several() []api.Report {
	var l []api.Report
	for f := range 6 {
		for d := range 6 {
			for s := range 6 {
				l = append(l, api.Report{Status: 1 + (f+d+s)%2, Findings: allFindings()[2000 : 2000+f], Fetch: digests(d), Dropped: slots(s)})
			}
		}
	}
	return append(l, full(64), full(100))
}

// roomy is a list's first n elements in new memory, with all of it behind these.
func roomy[T any](l []T, n int) []T { return slices.Clone(l)[:n] }

// P2: the findings that Sort was handed stay, the room behind them too, and are not kept.
func TestSortLeavesAlone(t *testing.T) {
	r := rand.New(rand.NewSource(7))
	for range 500 {
		whole := make([]api.Finding, 1+r.Intn(30))
		for i := range whole {
			whole[i] = api.Finding{Kind: r.Intn(5), At: r.Intn(5)}
		}
		for n := range len(whole) + 1 {
			l := slices.Clone(whole)
			got := finding.Sort(l[:n]...)
			want := slices.Clone(got)
			if !slices.Equal(l, whole) {
				t.Fatalf("%v has become %v", whole, l)
			}
			scribble(got, api.Finding{Kind: 99})
			if !slices.Equal(l, whole) {
				t.Fatalf("a change of the answer is seen: %v has become %v", whole, l)
			}
			got = finding.Sort(l[:n]...)
			scribble(l, api.Finding{Kind: 98})
			if !slices.Equal(got, want) {
				t.Fatalf("a change of the list is seen: %v, want %v", got, want)
			}
		}
	}
	sorted := pairs(1, 1, 2, 2, 3, 3)
	got := finding.Sort(sorted...)
	got[0].Kind = 9
	if sorted[0].Kind != 1 {
		t.Error("a list that is in order already is answered itself")
	}
}

// P2: a report that was put stays, with the room behind its lists; its bytes are new memory.
func TestPutLeavesAlone(t *testing.T) {
	reports := several()
	reports = append(reports, api.Report{Status: 3, Findings: pairs(2, 1, 1, 0)}, api.Report{Status: 1, Findings: pairs(2, 1, 1, 0), Fetch: []api.Digest{{2}, {1}}, Dropped: []int{9, 3}})
	for _, whole := range reports {
		n := [3]int{len(whole.Findings) / 2, len(whole.Fetch) / 2, len(whole.Dropped) / 2}
		own := copied(whole)
		r := api.Report{Status: whole.Status, Findings: own.Findings[:n[0]], Fetch: own.Fetch[:n[1]], Dropped: own.Dropped[:n[2]]}
		one, e := finding.Put(r)
		two, _ := finding.Put(r)
		want := slices.Clone(one)
		if !same(own, whole) {
			t.Fatalf("%v has become %v", whole, own)
		}
		scribble(one, 0xAA)
		again, e2 := finding.Put(r)
		if !same(own, whole) || !slices.Equal(two, want) || !slices.Equal(again, want) || e2 != e {
			t.Fatalf("Put(%v): a change is seen", r)
		}
		for _, change := range scribbles(r) {
			change()
		}
		if !slices.Equal(two, want) || !slices.Equal(again, want) {
			t.Fatalf("Put(%v): a later change of the report is seen", r)
		}
	}
}

// P2: the bytes that Get was handed stay, with the room behind them; the report is new memory.
func TestGetLeavesAlone(t *testing.T) {
	for _, r := range several() {
		whole, _ := finding.Put(r)
		whole = append(whole, 1, 2, 3)
		for _, n := range []int{len(whole) - 3, len(whole) - 4, len(whole) / 2} {
			b := roomy(whole, n)
			got, err := finding.Get(b)
			want := copied(got)
			if !slices.Equal(b[:len(whole)], whole) {
				t.Fatalf("% x has become % x", whole, b[:len(whole)])
			}
			for _, change := range scribbles(got) {
				change()
			}
			if !slices.Equal(b[:len(whole)], whole) {
				t.Fatalf("Get(% x): a change is seen in the bytes", whole)
			}
			got, again := finding.Get(b)
			if (err == nil) != (again == nil) || !same(got, want) {
				t.Fatalf("Get(% x): a change is seen", whole)
			}
			scribble(b, 0xBB)
			if !same(got, want) {
				t.Fatalf("Get(% x): a later change of the bytes is seen", whole)
			}
		}
	}
}

// P2: no two lists of one report share memory, nor do those of two.
func TestListsShareNothing(t *testing.T) {
	for _, r := range several() {
		b, _ := finding.Put(r)
		for i := range 3 {
			one, _ := finding.Get(b)
			two, _ := finding.Get(b)
			scribbles(one)[i]()
			if !same(but(one, r, i), r) {
				t.Fatalf("%v: list %d is seen in another one: %v", r, i, one)
			}
			if !same(two, r) {
				t.Fatalf("%v: list %d is seen in another report", r, i)
			}
		}
	}
}

// Two faults of the same bytes are two: a change of the one isn't seen in the other.
func TestFaultsAreNewMemory(t *testing.T) {
	b := append(raw(cleanBytes), 0)
	for _, bad := range [][]byte{nil, b, b[:9], raw("41520107"), raw("00000000"), raw("41520101 0100 14")} {
		_, one := finding.Get(bad)
		_, two := finding.Get(bad)
		f := one.(*finding.Fault)
		f.At, f.Err = -1, api.ErrLine
		_, want := getModel(bad)
		if *two.(*finding.Fault) != *want {
			t.Errorf("Get(% x): %v", bad, two)
		}
		checkGet(t, bad)
	}
}

// P3: the same again, time and again, and by many at once.
func TestTheSameAgain(t *testing.T) {
	r := full(50)
	b, _ := finding.Put(r)
	l := slices.Concat(r.Findings, r.Findings)
	slices.Reverse(l)
	var wait sync.WaitGroup
	for range 8 {
		wait.Go(func() {
			for range 50 {
				got, err := finding.Get(b)
				bytes, e := finding.Put(r)
				inOrder := finding.Sort(l...)
				if err != nil || !same(got, r) || e != api.OK || !slices.Equal(bytes, b) || !slices.Equal(inOrder, r.Findings) {
					t.Errorf("%v, %v, %d", got, err, e)
				}
				for _, change := range scribbles(got) {
					change()
				}
				scribble(bytes, 0xCC)
				scribble(inOrder, api.Finding{})
				if _, err := finding.Get(b[:40]); err.Error() != "finding: at 40: error 10" {
					t.Error(err)
				}
			}
		})
	}
	wait.Wait()
}
