package lay_test

import (
	"iter"
	"slices"
	"sync"
	"testing"

	"assay/api"
	"assay/lay"
)

// upTo is what an iterator tells till it is left, at the k-th sector.
func upTo(all iter.Seq2[int, api.Sector], k int) []api.Write {
	var l []api.Write
	for at, s := range all {
		l = append(l, api.Write{At: at, Data: s})
		if len(l) == k {
			break
		}
	}
	return l
}

// P25.2: left early anywhere, at the first, in the middle, at the last; behind each of them a whole going tells all.
func TestLeftEarly(t *testing.T) {
	for _, n := range few() {
		m := family(t, n).mended()
		want := laidOut(model(m))
		all := lay.All(m)
		for k := 1; k <= len(want); k++ {
			if got := upTo(all, k); !slices.Equal(got, want[:k]) {
				t.Fatalf("%d sectors, left at %d: %v", n, k, places(got))
			}
			if k%17 == 1 || k == len(want) {
				if got := upTo(all, -1); !slices.Equal(got, want) {
					t.Fatalf("%d sectors, behind %d: %v", n, k, places(got))
				}
			}
		}
	}
}

// P25.2: gone through again, behind a whole going too, and by a new iterator.
func TestGoneThroughAgain(t *testing.T) {
	for _, n := range sizes() {
		m := family(t, n).mended()
		want := laidOut(model(m))
		all := lay.All(m)
		for _, k := range []int{-1, -1, 1, -1, len(want) / 2, 3, -1} {
			got, other := upTo(all, k), upTo(lay.All(m), k)
			if k < 0 {
				k = len(want)
			}
			if !slices.Equal(got, want[:k]) || !slices.Equal(other, want[:k]) {
				t.Fatalf("%d sectors, %d: %v, %v", n, k, places(got), places(other))
			}
		}
	}
}

// P25.2: who says that it is enough is told no more, whichever table that is in.
func TestEnough(t *testing.T) {
	for _, n := range few() {
		m := family(t, n).mended()
		many := len(laidOut(model(m)))
		for k := 1; k <= many; k++ {
			calls := 0
			lay.All(m)(func(int, api.Sector) bool {
				calls++
				return calls < k
			})
			is(t, calls, k)
		}
	}
}

// P25.2: places rise from 0 to the head's last, without 2 to 10.
func TestPlaces(t *testing.T) {
	for _, n := range sizes() {
		want := []int{0, 1}
		for at := 11; at < modelData(n); at++ {
			want = append(want, at)
		}
		for _, d := range []*disk{zeros(t, n), family(t, n), house(t, n)} {
			if got := places(going(d.mended())); !slices.Equal(got, want) {
				t.Errorf("%d sectors: %v", n, got)
			}
		}
	}
}

// P5, P25.2: two goings of one iterator at once, step by step; one is ahead, and one is left.
func TestTwoGoingsAtOnce(t *testing.T) {
	for _, n := range few() {
		m := family(t, n).mended()
		want := laidOut(model(m))
		all := lay.All(m)
		one, leave := iter.Pull2(all)
		two, end := iter.Pull2(all)
		for i := range want {
			at, s, ok := one()
			if at != want[i].At || s != want[i].Data || !ok {
				t.Fatalf("%d sectors, the first going, %d: %d", n, i, at)
			}
			if i == len(want)/2 {
				leave()
				break
			}
			if i%2 == 0 {
				at, s, ok := two()
				if at != want[i/2].At || s != want[i/2].Data || !ok {
					t.Fatalf("%d sectors, the second going, %d: %d", n, i/2, at)
				}
			}
		}
		rest := 0
		for _, _, ok := two(); ok; _, _, ok = two() {
			rest++
		}
		is(t, rest, len(want)-(len(want)/2+1)/2)
		if _, _, ok := one(); ok {
			t.Error("the first going was left")
		}
		end()
	}
}

// P25.2: one going inside of another, of the same iterator.
func TestGoingInAGoing(t *testing.T) {
	m := family(t, 64).mended()
	want := laidOut(model(m))
	all := lay.All(m)
	i := 0
	for at, s := range all {
		is(t, api.Write{At: at, Data: s}, want[i])
		i++
		if got := upTo(all, i); !slices.Equal(got, want[:i]) {
			t.Fatalf("inside, up to %d: %v", i, places(got))
		}
	}
	is(t, i, len(want))
}

// P1: a panic of the function that is handed in goes through; the next going knows nothing of it.
func TestPanicGoesThrough(t *testing.T) {
	m := family(t, 64).mended()
	want := laidOut(model(m))
	all := lay.All(m)
	for k := range want {
		func() {
			defer func() { is(t, recover(), any("enough")) }()
			i := 0
			for range all {
				if i == k {
					panic("enough")
				}
				i++
			}
		}()
	}
	if got := upTo(all, -1); !slices.Equal(got, want) {
		t.Errorf("behind it: %v", places(got))
	}
}

// P3, P5: many who go through one iterator at once, ask for the head and for what differs, are all told the same.
func TestManyAtOnce(t *testing.T) {
	for _, n := range few() {
		d := family(t, n)
		m := d.mended()
		head, writes := model(m), d.differ()
		all := lay.All(m)
		var done sync.WaitGroup
		for k := range 8 {
			done.Go(func() {
				if got := upTo(all, 2*k); k > 0 && !slices.Equal(got, laidOut(head)[:2*k]) {
					t.Errorf("%d sectors: %v", n, places(got))
				}
				if got := lay.Head(m); !slices.Equal(got, head) {
					t.Errorf("%d sectors: another head", n)
				}
				if got, e := lay.Differ(d.l); e != api.OK || !slices.Equal(got, writes) {
					t.Errorf("%d sectors: %v, %d", n, places(got), e)
				}
			})
		}
		done.Wait()
	}
}
