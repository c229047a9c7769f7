package batch_test

import (
	"math/rand"
	"slices"
	"testing"

	"assay/api"
	"assay/batch"
)

// P26.2, P26.3: with nothing done all that count are left, rising, however nothing is told.
func TestNothingDone(t *testing.T) {
	r := rand.New(rand.NewSource(4))
	for _, n := range []int{0, 1, 7, 8, 9, 16, 17, 100} {
		l := writes(shuffled(r, append(from(0, n), from(0, n/2)...))...)
		for _, done := range [][][]api.Write{nil, {}, {nil}, {{}}, {nil, {}, nil, {}}, {writes(1, 2)[:0]}} {
			is(t, left(t, l, done...), from(0, n)...)
		}
	}
}

// P26.2: as Cut counts them: of several at one sector the last one is left.
func TestLeftCountsLikewise(t *testing.T) {
	for _, c := range []struct {
		at, done []int
		want     []api.Write
	}{
		{[]int{5, 5}, nil, []api.Write{{At: 5, Data: data(2)}}},
		{[]int{5, 3, 5}, nil, []api.Write{{At: 3, Data: data(2)}, {At: 5, Data: data(3)}}},
		{[]int{5, 3, 5}, []int{3}, []api.Write{{At: 5, Data: data(3)}}},
		{[]int{5, 3, 5, 3, 5, 4}, []int{4, 9}, []api.Write{{At: 3, Data: data(4)}, {At: 5, Data: data(5)}}},
		{[]int{5, 3, 5, 3}, []int{5}, []api.Write{{At: 3, Data: data(4)}}},
		{[]int{5, 3, 5, 3}, []int{5, 3}, nil},
	} {
		if got := left(t, writes(c.at...), writes(c.done...)); !slices.Equal(got, c.want) {
			t.Errorf("%v, %v done: %v, want %v", c.at, c.done, got, c.want)
		}
	}
}

// P26.2: what was done may lie in several lists, in any order, with sectors that nobody asked for, and more than once.
func TestLeftInPieces(t *testing.T) {
	for _, c := range []struct {
		at   []int
		done [][]int
		want []int
	}{
		{[]int{1, 2, 3, 4}, [][]int{{9}, nil, {4, 1}}, []int{2, 3}},
		{[]int{4, 3, 2, 1}, [][]int{{1}, {2}, {3}}, []int{4}},
		{[]int{4, 3, 2, 1}, [][]int{{2}}, []int{1, 3, 4}},
		{[]int{4, 3, 2, 1}, [][]int{{1, 4}}, []int{2, 3}},
		{[]int{1, 2, 3}, [][]int{{3, 2, 1}}, nil},
		{[]int{1, 2, 3}, [][]int{{1}, {2}, {3}}, nil},
		{[]int{1, 2, 3}, [][]int{{0, 4, -1, -2, -3}}, []int{1, 2, 3}},
		{[]int{1, 2, 3}, [][]int{{2, 2, 2}, {2}, nil, {2, 7}, {7}}, []int{1, 3}},
		{[]int{1, 2, 3}, [][]int{{1, 3}, {3, 1}}, []int{2}},
		{[]int{least, -1, 0, greatest}, [][]int{{greatest}, {-1}}, []int{least, 0}},
		{[]int{least, -1, 0, greatest}, [][]int{{0, least}}, []int{-1, greatest}},
		{[]int{greatest, least}, [][]int{{greatest - 1, least + 1}}, []int{least, greatest}},
		{[]int{1 << 32, 0}, [][]int{{0}}, []int{1 << 32}},
		{[]int{1 << 32, 0}, [][]int{{1 << 32}}, []int{0}},
		{[]int{-5, 5}, [][]int{{5}}, []int{-5}},
		{[]int{12, 11, 10, 9, 8, 7, 6, 5, 4, 3}, [][]int{{11}, {3}, {12}}, []int{4, 5, 6, 7, 8, 9, 10}},
	} {
		var done [][]api.Write
		for _, d := range c.done {
			done = append(done, writes(d...))
		}
		l := writes(c.at...)
		is(t, left(t, l, done...), c.want...)
		is(t, left(t, falling(l), falling(done)...), c.want...)
		is(t, left(t, l, slices.Concat(done...)), c.want...)
	}
}

// P26.2: a write of done stands at its sector with whatever data: what was done last isn't asked for.
func TestLeftWithOtherData(t *testing.T) {
	x, y, z := data('X'), data('Y'), data('Z')
	l := []api.Write{{At: 5, Data: x}, {At: 5, Data: y}, {At: 3, Data: x}}
	for _, s := range []api.Sector{x, y, z, {}} {
		got := left(t, l, []api.Write{{At: 5, Data: s}})
		if !slices.Equal(got, []api.Write{{At: 3, Data: x}}) {
			t.Errorf("%v", got)
		}
		got = left(t, l, []api.Write{{At: 3, Data: s}})
		if !slices.Equal(got, []api.Write{{At: 5, Data: y}}) {
			t.Errorf("%v", got)
		}
		got = left(t, l, []api.Write{{At: 3, Data: s}, {At: 5, Data: z}}, []api.Write{{At: 5, Data: s}})
		if len(got) != 0 {
			t.Errorf("%v", got)
		}
	}
}

// P26.2: the same data at another sector is not done.
func TestLeftWithTheSameDataElsewhere(t *testing.T) {
	x := data('X')
	l := []api.Write{{At: 5, Data: x}, {At: 6, Data: x}}
	if got := left(t, l, []api.Write{{At: 7, Data: x}, {At: 6}}); !slices.Equal(got, l[:1]) {
		t.Errorf("%v", got)
	}
}

// P26.3: with the first batches done just the others are left, and Cut of these is just the other batches; with all done, none.
func TestLeftBehindEachBatch(t *testing.T) {
	r := rand.New(rand.NewSource(5))
	for _, n := range []int{1, 7, 8, 9, 15, 16, 17, 40, 100} {
		for _, at := range orders(r, append(from(-3, n), from(0, n/3)...)) {
			l := writes(at...)
			batches := batch.Cut(l)
			if got := left(t, l, batches...); len(got) != 0 {
				t.Fatalf("%v are left behind all", sectors(got))
			}
			for k := range batches {
				got := left(t, l, batches[:k]...)
				if !slices.Equal(got, slices.Concat(batches[k:]...)) || !same(cut(t, got), batches[k:]) {
					t.Fatalf("behind %d of %d batches: %v", k, len(batches), sectors(got))
				}
				alone := left(t, l, batches[k])
				if !slices.Equal(alone, slices.Concat(slices.Concat(batches[:k]...), slices.Concat(batches[k+1:]...))) {
					t.Fatalf("behind batch %d alone: %v", k, sectors(alone))
				}
			}
		}
	}
}

// P26.2: step by step comes to the same as at once.
func TestLeftByAndBy(t *testing.T) {
	l := writes(shuffled(rand.New(rand.NewSource(6)), from(0, 50))...)
	now, done := l, [][]api.Write{}
	for _, b := range batch.Cut(l) {
		done = append(done, b)
		now = left(t, now, b)
		if !slices.Equal(now, left(t, l, done...)) {
			t.Fatalf("behind %s: %v", told(done), sectors(now))
		}
	}
	is(t, now)
}

// P26.2: writes may be handed in as done of themselves, whole or in part.
func TestLeftOfItself(t *testing.T) {
	l := writes(9, 4, 7, 4, 1, 8)
	is(t, left(t, l, l))
	is(t, left(t, l, l[:2]), 1, 7, 8)
	is(t, left(t, l, l[4:]), 4, 7, 9)
	is(t, left(t, l, l[1:2], l[3:4]), 1, 7, 8, 9)
	is(t, left(t, l[:3], l[3:]), 7, 9)
}
