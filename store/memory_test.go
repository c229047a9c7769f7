package store_test

import (
	"math/rand"
	"slices"
	"sync"
	"testing"

	"assay/api"
	"assay/store"
)

// filled is a disk with an entry of each kind at its first slots: good, lost by two findings, kept, torn.
func filled(n int) []api.Sector {
	l := noise(rand.New(rand.NewSource(int64(n))), n)
	p := placesOf(n)
	lay(l, 0, live, p.data, 100)
	lay(l, 1, corrupt, p.data+1, 70)
	lay(l, 2, corrupt, p.data+5, 70)
	lay(l, 3, quarantine, p.data+8, 1)
	lay(l, 4, live, p.data+1, 5)
	lay(l, 5, live, 0, 0)
	lay(l, 6, live, p.data+12, 64)
	tear(l, 6)
	return l
}

// P2: the image is as it was, and so is the list that it was made of, whatever is asked.
func TestWhatIsHandedInStays(t *testing.T) {
	for _, n := range []int{64, 481, 1024} {
		l := filled(n)
		was := slices.Clone(l)
		im := imageOf(t, l)
		s := store.Of(im)
		for i := range n {
			s.Bytes(i)
			s.Wrong(i)
			s.Taken(i)
			s.Find(s.Hash(i))
		}
		if s.Image() != im || !slices.Equal(im.Sectors(), was) || !slices.Equal(l, was) {
			t.Errorf("%d sectors", n)
		}
	}
}

// P2: what the list is later isn't seen.
func TestWhatTheListIsLaterIsNotSeen(t *testing.T) {
	l := filled(64)
	all := reading(l)
	im := imageOf(t, l)
	clear(l)
	s := store.Of(im)
	for i := range l {
		l[i] = api.Sector{byte(i), 1}
	}
	for range 2 {
		checkSlots(t, s, all)
		checkKeys(t, s, all)
		checkTaken(t, s, all, 64)
	}
}

// scribble writes into a list and behind it, and appends to it, as a caller may.
func scribble[T any](l []T, v T) {
	l = append(l, v)
	l = l[:cap(l)]
	for i := range l {
		l[i] = v
	}
}

// P2: each answer may be written into and grown; neither the store nor another answer sees it.
func TestAnswersAreNewMemory(t *testing.T) {
	for _, n := range []int{64, 481, 1024} {
		l := filled(n)
		all := reading(l)
		im := imageOf(t, l)
		s := store.Of(im)
		for slot := range 8 {
			bytes, more := s.Bytes(slot), s.Bytes(slot)
			kinds, again := s.Wrong(slot), s.Wrong(slot)
			was, told := slices.Clone(more), slices.Clone(again)
			scribble(bytes[:len(bytes)/2], 0xAA)
			scribble(kinds[:len(kinds)/2], 77)
			if !slices.Equal(more, was) || !slices.Equal(again, told) {
				t.Fatalf("%d sectors, slot %d: one answer sees another", n, slot)
			}
			checkSlots(t, s, all)
			scribble(more, 0xBB)
			scribble(again, -1)
			checkSlots(t, s, all)
			checkKeys(t, s, all)
			checkTaken(t, s, all, n)
		}
		if !slices.Equal(im.Sectors(), l) || !slices.Equal(l, filled(n)) {
			t.Fatalf("%d sectors: the image has changed", n)
		}
	}
}

// P5: two stores of one image, and stores of others, have nothing to do with each other.
func TestTwoStores(t *testing.T) {
	l, other := filled(64), filled(481)
	im := imageOf(t, l)
	a, b, c := store.Of(im), store.Of(im), store.Of(imageOf(t, other))
	if a == b || a.Image() != b.Image() {
		t.Error("one store for two")
	}
	for range 2 {
		scribble(a.Bytes(0), 1)
		scribble(a.Wrong(1), 1)
		for _, s := range []*store.Store{a, b} {
			checkSlots(t, s, reading(l))
			checkKeys(t, s, reading(l))
			checkTaken(t, s, reading(l), 64)
		}
		checkSlots(t, c, reading(other))
		checkTaken(t, c, reading(other), 481)
	}
}

// P3: a store that many ask at once answers all of them alike.
func TestAtOnce(t *testing.T) {
	l := byChance(rand.New(rand.NewSource(40)), 1024)
	all := reading(l)
	s := store.Of(imageOf(t, l))
	var wait sync.WaitGroup
	for range 8 {
		wait.Go(func() {
			for i, x := range all {
				at, ok := s.Find(x.hash)
				if s.State(i) != x.state || !slices.Equal(s.Wrong(i), x.wrong) || !slices.Equal(s.Bytes(i), x.bytes) || s.Hash(i) != x.hash {
					t.Errorf("slot %d: %d, %v", i, s.State(i), s.Wrong(i))
				}
				if x.state == good && (at != i || !ok) {
					t.Errorf("slot %d: Find: %d, %v", i, at, ok)
				}
				scribble(s.Wrong(i), i)
				s.Taken(i + 279)
			}
		})
	}
	wait.Wait()
}

// P3: two stores of one disk answer alike, time and again.
func TestTheSameAgain(t *testing.T) {
	l := byChance(rand.New(rand.NewSource(41)), 512)
	want := told(store.Of(imageOf(t, l)))
	for range 20 {
		if got := told(store.Of(imageOf(t, l))); got != want {
			t.Fatalf("%s, want %s", got, want)
		}
	}
}
