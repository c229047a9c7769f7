package forest_test

import (
	"math/rand"
	"slices"
	"sync"
	"testing"

	"assay/api"
	"assay/forest"
)

// scribble writes into a list and behind it, and appends to it, as a caller may.
func scribble[T any](l []T, v T) {
	l = append(l, v)
	l = l[:cap(l)]
	for i := range l {
		l[i] = v
	}
}

// scribbles is a scribble for each list of an answer.
func scribbles(f forest.Forest) []func() {
	return []func(){
		func() { scribble(f.Kept, len(f.Twice) == 0) },
		func() { scribble(f.Parent, 77) },
		func() { scribble(f.Twice, -7) },
		func() { scribble(f.NoLayer, -8) },
		func() { scribble(f.NoParent, -9) },
		func() { scribble(f.Cycles, -10) },
	}
}

// copied is an answer in other memory.
func copied(f forest.Forest) forest.Forest {
	return forest.Forest{Kept: slices.Clone(f.Kept), Parent: slices.Clone(f.Parent), Twice: slices.Clone(f.Twice), NoLayer: slices.Clone(f.NoLayer), NoParent: slices.Clone(f.NoParent), Cycles: slices.Clone(f.Cycles)}
}

// but is an answer with one list, by its number, of another one.
func but(f, of forest.Forest, i int) forest.Forest {
	switch i {
	case 0:
		f.Kept = of.Kept
	case 1:
		f.Parent = of.Parent
	case 2:
		f.Twice = of.Twice
	case 3:
		f.NoLayer = of.NoLayer
	case 4:
		f.NoParent = of.NoParent
	case 5:
		f.Cycles = of.Cycles
	}
	return f
}

// faulty is rows in which so many things of each kind are wrong.
func faulty(twice, noLayer, noParent, cycles int) []forest.Row {
	l := rows("1 0")
	for range twice {
		l = append(l, rows("1 0")...)
	}
	for range noLayer {
		l = append(l, rows("2 0-")...)
	}
	for i := range uint32(noParent) {
		l = append(l, standing([]api.Snap{{ID: 10 + i, Parent: 9}})...)
	}
	for i := range uint32(cycles) {
		l = append(l, standing(ring(20+i))...)
	}
	return l
}

// several is rows with something for each list (of lengths up to five, so that some have room behind them), and lists of no rows and of nothing wrong.
func several() [][]forest.Row {
	r := rand.New(rand.NewSource(9))
	l := [][]forest.Row{nil, rows("1 0, 2 1"), rows("5 7, 7 9, 9 5, 5 0, 3 0-, 4 3, 6 5, 8 8, 7 7, 2 0-, 1 99")}
	for n := 1; n < 64; n++ {
		l = append(l, byChance(r, n, n+3, 6))
	}
	for i := range 6 * 6 * 6 * 6 {
		l = append(l, faulty(i%6, i/6%6, i/36%6, i/216))
	}
	return l
}

// P2: what was handed in stays, the room behind it too, and is not kept.
func TestHandedInStays(t *testing.T) {
	for _, whole := range several() {
		for n := range len(whole) + 1 {
			l := slices.Clone(whole)
			f := forest.Of(l[:n])
			if !slices.Equal(l, whole) {
				t.Fatalf("Of: %v has become %v", whole, l)
			}
			want := copied(f)
			scribble(l, forest.Row{There: true, Snap: api.Snap{ID: 3}})
			if !same(f, want) {
				t.Fatalf("Of(%v) has become %+v", whole[:n], f)
			}
			s := all(whole)
			is := forest.Is(s[:n])
			if !slices.Equal(s, all(whole)) || is != forest.Is(s[:n]) {
				t.Fatalf("Is: %v has become %v", all(whole), s)
			}
		}
	}
}

// P2: two answers of the same call, changed one after the other: neither the other one nor a third sees it.
func TestAnswersAreNewMemory(t *testing.T) {
	for _, l := range several() {
		was := slices.Clone(l)
		for i := range 6 {
			one, two := forest.Of(l), forest.Of(l)
			want := copied(one)
			scribbles(one)[i]()
			if !same(two, want) || !same(forest.Of(l), want) || !slices.Equal(l, was) {
				t.Fatalf("list %d of %v: a change is seen", i, l)
			}
			scribbles(two)[i]()
			if !same(forest.Of(l), want) || !slices.Equal(l, was) {
				t.Fatalf("list %d of %v: the second change is seen", i, l)
			}
		}
	}
}

// P2: no two lists of one answer share memory, nor the room behind them.
func TestListsShareNothing(t *testing.T) {
	for _, l := range several() {
		want := forest.Of(l)
		for i := range 6 {
			f := forest.Of(l)
			scribbles(f)[i]()
			if !same(but(f, want, i), want) {
				t.Fatalf("of %v: list %d is seen in another one: %+v", l, i, f)
			}
		}
		// Each grown by one in place, where there is room: nobody's end is somebody's beginning.
		f := forest.Of(l)
		lists := [][]int{append(f.Twice, -1), append(f.NoLayer, -2), append(f.NoParent, -3), append(f.Cycles, -4)}
		for i, list := range lists {
			if list[len(list)-1] != -1-i || !same(f, want) {
				t.Fatalf("of %v: list %d is %v", l, i, list)
			}
		}
	}
}

// P3: the same again, time and again, and by many at once.
func TestTheSameAgain(t *testing.T) {
	l := byChance(rand.New(rand.NewSource(10)), 300, 200, 20)
	want := check(t, l)
	var wait sync.WaitGroup
	for range 8 {
		wait.Go(func() {
			for range 50 {
				f := forest.Of(l)
				if !same(f, want) || forest.Is(all(l)) || !forest.Is(left(l, f)) {
					t.Errorf("%+v", f)
				}
				for _, change := range scribbles(f) {
					change()
				}
			}
		})
	}
	wait.Wait()
}
