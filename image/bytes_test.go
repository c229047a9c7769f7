package image_test

import (
	"math"
	"math/rand"
	"testing"

	"assay/api"
)

// P18.7: every length, from the first data sector on and up to the last one.
func TestBytesOfEveryLength(t *testing.T) {
	r := rand.New(rand.NewSource(11))
	for _, n := range []int{64, 120, 481, 1024} {
		d := noise(r, n)
		m := made(t, d)
		first := placesOf(n).data
		for long := range 4100 {
			many := (long + 63) / 64
			for _, start := range []int{0, first, n - many, n - many + 1, first - 1} {
				checkBytes(t, m, d, api.Entry{State: 1 + long%2, Start: start, Length: long, Key: keyOf(byte(long))})
			}
		}
	}
}

// P18.7: what is asked for is what stands in the sectors, a last one that is used in part too; the key is no matter.
func TestBytesAsTheyStand(t *testing.T) {
	l := make([]api.Sector, 64)
	for i := range l {
		for k := range l[i] {
			l[i][k] = byte(i)
		}
	}
	l[2] = api.Sector{}
	m := made(t, l)
	for _, key := range []api.Digest{{}, keyOf(9)} {
		b := m.Bytes(api.Entry{State: 2, Start: 61, Length: 130, Key: key})
		if len(b) != 130 || b[0] != 61 || b[63] != 61 || b[64] != 62 || b[127] != 62 || b[128] != 63 || b[129] != 63 {
			t.Errorf("% x", b)
		}
	}
	if b := m.Bytes(api.Entry{State: 1}); len(b) != 0 {
		t.Errorf("of no length: % x", b)
	}
	if b := m.Bytes(api.Entry{State: 1, Start: 29, Length: 35 * 64}); len(b) != 35*64 || b[35*64-1] != 63 {
		t.Errorf("all data: %d", len(b))
	}
}

// P18.7: entries that are not right on this disk have none.
func TestBytesOfWhatIsNotRight(t *testing.T) {
	r := rand.New(rand.NewSource(12))
	odd := []int{
		math.MinInt, math.MinInt + 29, math.MinInt32, -1 << 32, -1 << 16, -4096, -64, -29, -1, 4097, 1 << 16, 1<<16 + 1, 1<<16 + 29,
		math.MaxInt32, 1 << 32, 1<<32 + 1, 1<<32 + 29, math.MaxInt - 64, math.MaxInt - 63, math.MaxInt - 62, math.MaxInt - 1, math.MaxInt,
	}
	for _, n := range sizes() {
		d := noise(r, n)
		m := made(t, d)
		first := placesOf(n).data
		bad := []api.Entry{
			{}, {State: 0, Start: first, Length: 1}, {State: 3, Start: first, Length: 1}, {State: -1, Start: first, Length: 1}, {State: 257, Start: first, Length: 1},
			{State: 1, Start: first - 1, Length: 1}, {State: 1, Start: n, Length: 1}, {State: 2, Start: n - 1, Length: 65}, {State: 1, Start: 0, Length: 1},
			{State: 1, Start: first}, {State: 1, Start: -1}, {State: 2, Start: first, Length: 64*(n-first) + 1}, {State: 1, Start: 11, Length: 64},
		}
		for _, v := range odd {
			bad = append(bad, api.Entry{State: 1, Start: v, Length: 1}, api.Entry{State: 1, Start: first, Length: v}, api.Entry{State: v, Start: first, Length: 1})
			for _, w := range odd {
				bad = append(bad, api.Entry{State: 2, Start: v, Length: w})
			}
		}
		for _, e := range bad {
			if b := m.Bytes(e); len(b) != 0 {
				t.Fatalf("%d sectors, %v: % x", n, e, b)
			}
			checkBytes(t, m, d, e)
		}
	}
}
