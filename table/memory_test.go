package table_test

import (
	"slices"
	"strings"
	"sync"
	"testing"

	"assay/api"
	"assay/table"
)

// fill writes into a list and behind it, as a caller may.
func fill(l []uint32, v uint32) {
	l = l[:cap(l)]
	for i := range l {
		l[i] = v
	}
}

// P2, P3: PutCounts changes and keeps nothing of a list, nor the room behind it, and sees none of that room.
func TestPutCountsMemory(t *testing.T) {
	for n := 0; n <= 17; n++ {
		room := counting(1000, n+5)
		kept := slices.Clone(room)
		one, bad := table.PutCounts(room[:n])
		if !slices.Equal(room, kept) {
			t.Fatalf("%d: %v has become %v", n, kept, room)
		}
		checkPutCounts(t, room[:n])
		fill(room, 7)
		if two, e := table.PutCounts(kept[:n:n]); two != one || e != bad {
			t.Fatalf("%d the second time: % x, %d", n, two, e)
		}
	}
}

// P2, P3: what GetCounts answers may be written into and grown, and nothing else sees it.
func TestGetCountsMemory(t *testing.T) {
	for _, l := range lists() {
		for _, n := range []int{-1, 0, len(l), 15, 99} {
			s := toldCounts(l)
			kept := s
			want, right := readCounts(s, n)
			one, _ := table.GetCounts(s, n)
			two, ok := table.GetCounts(s, n)
			fill(one, 0xAAAAAAAA)
			fill(append(one, 1), 0xBBBBBBBB)
			if s != kept || !slices.Equal(two, want) || ok != right {
				t.Fatalf("%v with %d: %v, %v", l, n, two, ok)
			}
			checkGetCounts(t, s, n)
		}
	}
}

// P2, P3: sectors, tags and snapshots are values: what is handed in stays, what is answered may be changed, and the same is answered again.
func TestValuesMemory(t *testing.T) {
	for _, x := range append(tags(), api.Tag{}, api.Tag{Name: "a b", Key: anyKey()}) {
		before := api.Tag{Name: strings.Clone(x.Name), Key: x.Key}
		s, _ := table.PutTag(x)
		kept := s
		g, _ := table.GetTag(s)
		if x != before || s != kept {
			t.Fatalf("%v has become %v, % x % x", before, x, kept, s)
		}
		s[5] ^= 0xFF
		g.Key[3] ^= 0xFF
		checkPutTag(t, x)
		checkGetTag(t, kept)
	}
	for _, x := range append(snaps(), api.Snap{}, api.Snap{Parent: 3, Layer: anyKey()}) {
		before := x
		s, _ := table.PutSnap(x)
		kept := s
		g, _ := table.GetSnap(s)
		if x != before || s != kept {
			t.Fatalf("%v has become %v, % x % x", before, x, kept, s)
		}
		s[5] ^= 0xFF
		g.Layer[3] ^= 0xFF
		checkPutSnap(t, x)
		checkGetSnap(t, kept)
	}
}

// P2: a name that is answered does not change with the sector, nor one with another.
func TestNamesStay(t *testing.T) {
	s := told("first", anyKey())
	one, _ := table.GetTag(s)
	copy(s[2:], "other")
	two, _ := table.GetTag(sum(s))
	clear(s[:])
	if one.Name != "first" || two.Name != "other" {
		t.Error(one.Name, two.Name)
	}
}

// P3, P5: calls that run at once have nothing to do with each other.
func TestAtOnce(t *testing.T) {
	var wait sync.WaitGroup
	for i := range 8 {
		wait.Go(func() {
			for n := range 200 {
				x := tags()[(i+n)%24]
				y := snaps()[(i+n)%8]
				l := counting(uint32(i*n), n%16)
				a, e := table.PutTag(x)
				b, f := table.PutSnap(y)
				c, h := table.PutCounts(l)
				if e != api.OK || f != api.OK || h != api.OK {
					t.Error(i, n, e, f, h)
				}
				gx, _ := table.GetTag(a)
				gy, _ := table.GetSnap(b)
				gl, _ := table.GetCounts(c, len(l))
				if gx != x || gy != y || !slices.Equal(gl, l) {
					t.Error(i, n, gx, gy, gl)
				}
			}
		})
	}
	wait.Wait()
}
