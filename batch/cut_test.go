package batch_test

import (
	"math/rand"
	"slices"
	"testing"

	"assay/api"
)

// orders is a list rising, falling, from its middle on, and in several orders by chance.
func orders[T any](r *rand.Rand, l []T) [][]T {
	all := [][]T{slices.Clone(l), falling(l), append(slices.Clone(l[len(l)/2:]), l[:len(l)/2]...)}
	for range 5 {
		all = append(all, shuffled(r, l))
	}
	return all
}

// P26.1, P26.3: so many writes make so many batches, in whatever order they come.
func TestHowMany(t *testing.T) {
	r := rand.New(rand.NewSource(1))
	for _, c := range []struct{ n, batches, last int }{
		{1, 1, 1}, {2, 1, 2}, {7, 1, 7}, {8, 1, 8}, {9, 2, 1}, {15, 2, 7}, {16, 2, 8}, {17, 3, 1}, {23, 3, 7}, {24, 3, 8}, {25, 4, 1}, {64, 8, 8}, {65, 9, 1}, {100, 13, 4}, {279, 35, 7}, {1024, 128, 8},
	} {
		for _, first := range []int{least, -1000, -c.n, -1, 0, 1, 1000, greatest - c.n + 1} {
			rising := from(first, c.n)
			for _, at := range orders(r, rising) {
				got := cut(t, writes(at...))
				if len(got) != c.batches || len(got[c.batches-1]) != c.last {
					t.Fatalf("%d writes: %s", c.n, told(got))
				}
				if all := sectors(slices.Concat(got...)); !slices.Equal(all, rising) {
					t.Fatalf("%v, want %v", all, rising)
				}
			}
			if c.n > 100 {
				break // once is enough of the many
			}
		}
	}
}

// P26.1: the first batch has the eight lowest ones, the second the next eight, and so on.
func TestTheLowestFirst(t *testing.T) {
	for _, c := range []struct {
		at   []int
		want string
	}{
		{[]int{1}, "[1]"},
		{[]int{2, 1}, "[1 2]"},
		{[]int{8, 7, 6, 5, 4, 3, 2, 1}, "[1 2 3 4 5 6 7 8]"},
		{[]int{9, 8, 7, 6, 5, 4, 3, 2, 1}, "[1 2 3 4 5 6 7 8] [9]"},
		{[]int{1, 2, 3, 4, 5, 6, 7, 8, 0}, "[0 1 2 3 4 5 6 7] [8]"},
		{[]int{100, 1, 90, 2, 80, 3, 70, 4, 60, 5, 50}, "[1 2 3 4 5 50 60 70] [80 90 100]"},
		{[]int{1023, 0, 12, 11, 28, 1}, "[0 1 11 12 28 1023]"},
		{[]int{30, 3, 25, 20, 2, 15, 17, 10, 1, 27, 5, 8, 22, 13, 6, 18, 9}, "[1 2 3 5 6 8 9 10] [13 15 17 18 20 22 25 27] [30]"},
	} {
		are(t, cut(t, writes(c.at...)), c.want)
	}
}

// P26.1: At may be any number; a difference of two would wrap round.
func TestAnySector(t *testing.T) {
	for _, c := range []struct {
		at   []int
		want string
	}{
		{[]int{0}, "[0]"},
		{[]int{-1}, "[-1]"},
		{[]int{least}, "[-9223372036854775808]"},
		{[]int{greatest}, "[9223372036854775807]"},
		{[]int{greatest, least}, "[-9223372036854775808 9223372036854775807]"},
		{[]int{greatest, 0, least}, "[-9223372036854775808 0 9223372036854775807]"},
		{[]int{0, least, greatest, -1, 1}, "[-9223372036854775808 -1 0 1 9223372036854775807]"},
		{[]int{greatest, greatest - 1, least + 1, least}, "[-9223372036854775808 -9223372036854775807 9223372036854775806 9223372036854775807]"},
		{[]int{1, -1, 2, -2, 3, -3, 4, -4, 0, 1 << 32, -1 << 32}, "[-4294967296 -4 -3 -2 -1 0 1 2] [3 4 4294967296]"},
		{[]int{1 << 32, 1<<32 + 1, 0, 1, 2}, "[0 1 2 4294967296 4294967297]"},
		{[]int{2000, 1024, 63, 5, 2}, "[2 5 63 1024 2000]"},
	} {
		are(t, cut(t, writes(c.at...)), c.want)
		are(t, cut(t, writes(falling(c.at)...)), c.want)
	}
}

// P26.1: of several writes at one sector the last one counts, wherever the others stand.
func TestTheLastCounts(t *testing.T) {
	for _, c := range []struct {
		at   []int
		want []api.Write // with the number of the write that counts
	}{
		{[]int{5, 5}, []api.Write{{At: 5, Data: data(2)}}},
		{[]int{5, 5, 5}, []api.Write{{At: 5, Data: data(3)}}},
		{[]int{5, 6, 5}, []api.Write{{At: 5, Data: data(3)}, {At: 6, Data: data(2)}}},
		{[]int{6, 5, 6}, []api.Write{{At: 5, Data: data(2)}, {At: 6, Data: data(3)}}},
		{[]int{5, 6, 5, 6}, []api.Write{{At: 5, Data: data(3)}, {At: 6, Data: data(4)}}},
		{[]int{6, 6, 5, 5}, []api.Write{{At: 5, Data: data(4)}, {At: 6, Data: data(2)}}},
		{[]int{5, 1, 2, 3, 4, 5}, []api.Write{{At: 1, Data: data(2)}, {At: 2, Data: data(3)}, {At: 3, Data: data(4)}, {At: 4, Data: data(5)}, {At: 5, Data: data(6)}}},
		{[]int{1, 9, 1, 8, 1, 7, 1}, []api.Write{{At: 1, Data: data(7)}, {At: 7, Data: data(6)}, {At: 8, Data: data(4)}, {At: 9, Data: data(2)}}},
		{[]int{greatest, least, greatest, least}, []api.Write{{At: least, Data: data(4)}, {At: greatest, Data: data(3)}}},
		{[]int{0, -1, 0, -1, 0}, []api.Write{{At: -1, Data: data(4)}, {At: 0, Data: data(5)}}},
	} {
		if got := cut(t, writes(c.at...)); len(got) != 1 || !slices.Equal(got[0], c.want) {
			t.Errorf("%v: %v, want %v", c.at, got, c.want)
		}
	}
}

// P26.1: the last one counts also where all have the same data, or where the first and the last have.
func TestTheSameData(t *testing.T) {
	x, y := data('X'), data('Y')
	for _, c := range []struct {
		l    []api.Sector
		want api.Sector
	}{
		{[]api.Sector{x, x}, x}, {[]api.Sector{x, y}, y}, {[]api.Sector{y, x}, x}, {[]api.Sector{x, x, y}, y}, {[]api.Sector{x, y, x}, x}, {[]api.Sector{y, y, y, y}, y}, {[]api.Sector{y, y, y, {}}, api.Sector{}}, {[]api.Sector{{}, y}, y},
	} {
		var l []api.Write
		for i, s := range c.l {
			l = append(l, api.Write{At: 5, Data: s}, api.Write{At: 100 + i})
		}
		got := cut(t, l)
		if len(got) != 1 || len(got[0]) != 1+len(c.l) || got[0][0] != (api.Write{At: 5, Data: c.want}) {
			t.Errorf("%v", got)
		}
	}
}

// P26.1: there are so many at one sector that a sort which takes them for alike would mix them, and that their batches come out fewer.
func TestManyAtOneSector(t *testing.T) {
	r := rand.New(rand.NewSource(2))
	for _, times := range []int{2, 3, 4, 20, 100} {
		for _, n := range []int{1, 4, 8, 9, 16, 17} {
			var at []int
			for range times {
				at = append(at, from(40, n)...)
			}
			for _, order := range orders(r, at) {
				got := cut(t, writes(order...))
				if len(got) != (n+7)/8 {
					t.Fatalf("%d times %d: %s", times, n, told(got))
				}
				for _, w := range slices.Concat(got...) {
					if want := lastOf(order, w.At); w.Data != data(want+1) {
						t.Fatalf("%d times %d: at %d not the last one", times, n, w.At)
					}
				}
			}
		}
	}
}

// lastOf is the last place of a sector in a list.
func lastOf(at []int, want int) int {
	for i := len(at) - 1; i >= 0; i-- {
		if at[i] == want {
			return i
		}
	}
	return -1
}

// P26.1: a write that doesn't count takes no room in a batch: of nine at eight sectors there is one batch, of seventeen at sixteen two.
func TestABatchFewer(t *testing.T) {
	for _, n := range []int{8, 16, 24, 80} {
		for twice := range n {
			at := append(from(0, n), twice)
			if got := cut(t, writes(at...)); len(got) != n/8 {
				t.Fatalf("%d, %d twice: %s", n, twice, told(got))
			}
			if got := cut(t, writes(append([]int{twice}, from(0, n)...)...)); len(got) != n/8 {
				t.Fatalf("%d, %d twice: %s", n, twice, told(got))
			}
			if got := cut(t, writes(append(at, n)...)); len(got) != n/8+1 {
				t.Fatalf("%d and one more, %d twice: %s", n, twice, told(got))
			}
		}
	}
}

// P26.3: what comes out, cut again in whatever order its batches come, is the same.
func TestCutAgain(t *testing.T) {
	r := rand.New(rand.NewSource(3))
	for _, n := range []int{1, 8, 9, 17, 100} {
		once := cut(t, writes(shuffled(r, from(-5, n))...))
		if again := cut(t, slices.Concat(once...)); !same(again, once) {
			t.Errorf("%s, and then %s", told(once), told(again))
		}
		if again := cut(t, slices.Concat(falling(once)...)); !same(again, once) {
			t.Errorf("%s, and then %s", told(once), told(again))
		}
	}
}
