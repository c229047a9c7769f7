package graph_test

import (
	"math/rand"
	"slices"
	"sync"
	"testing"

	"assay/api"
	"assay/graph"
	"assay/image"
	"assay/store"
)

// scribble writes into a list and behind it, and appends to it, as a caller may.
func scribble[T any](l []T, v T) {
	l = append(l, v)
	l = l[:cap(l)]
	for i := range l {
		l[i] = v
	}
}

// P2: the list of slots stays as it is, and so does the room behind it.
func TestSlotsHandedInStay(t *testing.T) {
	g := graph.Of(storeOf(t, family().l))
	room := []int{12, 9, -1, 9, 2, 100, 7, 4, 3, 2, 1}
	for n := range len(room) {
		l := slices.Clone(room)
		one := g.Reached(l[:n]...)
		two := g.Missing(l[:n]...)
		if !slices.Equal(l, room) {
			t.Fatalf("%v has become %v", room, l)
		}
		scribble(l, 4)
		if !slices.Equal(one, g.Reached(room[:n]...)) || !slices.Equal(two, g.Missing(room[:n]...)) {
			t.Fatalf("of %v: %v, %x", room[:n], one, two)
		}
		was := slices.Clone(room)
		scribble(one, 77)
		if !slices.Equal(room, was) {
			t.Fatal("an answer is the list that was handed in")
		}
	}
}

// P2: the store is as it was, whatever is asked.
func TestTheStoreStays(t *testing.T) {
	for _, n := range []int{64, 481, 1024} {
		d := byChance(rand.New(rand.NewSource(int64(n))), n)
		was := slices.Clone(d.l)
		im, _ := image.Of(d.l)
		s := store.Of(im)
		g := graph.Of(s)
		all := reading(storeOf(t, was))
		checkSlots(t, g, all)
		for slot := range s.Slots() {
			scribble(g.Names(slot), api.Desc{})
		}
		again := storeOf(t, was)
		for slot := range s.Slots() {
			e, ok := s.Entry(slot)
			f, is := again.Entry(slot)
			if e != f || ok != is || s.State(slot) != again.State(slot) || !slices.Equal(s.Bytes(slot), again.Bytes(slot)) || s.Hash(slot) != again.Hash(slot) {
				t.Fatalf("%d sectors, slot %d", n, slot)
			}
		}
		if s.Image() != im || !slices.Equal(im.Sectors(), was) || !slices.Equal(d.l, was) {
			t.Errorf("%d sectors", n)
		}
	}
}

// P2: what becomes of what the store has handed out, ahead of the graph and behind it, isn't seen.
func TestWhatTheStoreHandsOut(t *testing.T) {
	d := family()
	s := storeOf(t, d.l)
	all := reading(storeOf(t, d.l))
	for slot := range s.Slots() {
		scribble(s.Bytes(slot), '#')
	}
	g := graph.Of(s)
	clear(d.l)
	for slot := range s.Slots() {
		scribble(s.Bytes(slot), '#')
	}
	checkSlots(t, g, all)
	checkMeets(t, g, all)
	checkLists(t, g, all)
}

// unseen holds that a change of one answer is seen in no other, and not in a third one; then the same of the second.
func unseen[T comparable](t *testing.T, what string, v T, ask func() []T) {
	t.Helper()
	one, two := ask(), ask()
	want := slices.Clone(one)
	scribble(one[:len(one)/2], v)
	if !slices.Equal(two, want) || !slices.Equal(ask(), want) {
		t.Fatalf("%s: a change is seen: %v", what, want)
	}
	scribble(two, v)
	if !slices.Equal(ask(), want) {
		t.Fatalf("%s: the second change is seen: %v", what, want)
	}
}

// P2: each answer may be written into and grown; neither the graph nor another answer sees it.
func TestAnswersAreNewMemory(t *testing.T) {
	r := rand.New(rand.NewSource(40))
	for _, d := range []*disk{family(), byChance(r, 64), byChance(r, 1024)} {
		all := reading(storeOf(t, d.l))
		g := graph.Of(storeOf(t, d.l))
		for slot := range all {
			unseen(t, "Names", api.Desc{Size: -7}, func() []api.Desc { return g.Names(slot) })
			unseen(t, "Reached", -7, func() []int { return g.Reached(slot, 9, slot) })
			unseen(t, "Missing", api.Digest{7}, func() []api.Digest { return g.Missing(slot, 9, slot) })
		}
		checkSlots(t, g, all)
		checkMeets(t, g, all)
		checkLists(t, g, all)
	}
}

// P5: two graphs of one store, and graphs of others, have nothing to do with each other.
func TestTwoGraphs(t *testing.T) {
	d, other := family(), chain(128, "abc")
	s, o := storeOf(t, d.l), storeOf(t, other.l)
	a, b, c := graph.Of(s), graph.Of(s), graph.Of(o)
	if a == b {
		t.Error("one graph for two")
	}
	for range 2 {
		scribble(a.Names(9), api.Desc{})
		scribble(a.Reached(9), 1)
		scribble(a.Missing(9), api.Digest{})
		checkSlots(t, a, reading(s))
		checkSlots(t, b, reading(s))
		checkSlots(t, c, reading(o))
		checkMeets(t, c, reading(o))
	}
}

// P3: a graph that many ask at once answers all of them alike.
func TestAtOnce(t *testing.T) {
	s := storeOf(t, byChance(rand.New(rand.NewSource(41)), 1024).l)
	all := reading(s)
	g := graph.Of(s)
	var wait sync.WaitGroup
	for i := range 8 {
		wait.Go(func() {
			for k := range all {
				slot := (k + 16*i) % len(all)
				x := all[slot]
				if g.Whole(slot) != x.whole || g.Degree(slot) != x.degree || !slices.Equal(g.Reached(slot), x.reached) || !slices.Equal(g.Names(slot), x.names) {
					t.Errorf("slot %d: %v, %d, %v", slot, g.Whole(slot), g.Degree(slot), g.Reached(slot))
				}
				scribble(g.Names(slot), api.Desc{})
				scribble(g.Missing(slot), api.Digest{})
			}
		})
	}
	wait.Wait()
}

// P3: two graphs of one disk answer alike, time and again.
func TestTheSameAgain(t *testing.T) {
	d := byChance(rand.New(rand.NewSource(42)), 512)
	all := reading(storeOf(t, d.l))
	for range 20 {
		g := graph.Of(storeOf(t, d.l))
		checkSlots(t, g, all)
		checkList(t, g, all, 5, 3, 1, 60, 40, 20)
	}
}
