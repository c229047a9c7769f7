package lay_test

import (
	"math/rand"
	"slices"
	"testing"

	"assay/api"
	"assay/lay"
)

// scribble writes into a list, into its spare room and behind it, as a caller may.
func scribble[T any](l []T, v T) {
	l = append(l, v)
	l = l[:cap(l)]
	for i := range l {
		l[i] = v
	}
}

// P2: the sectors that are handed in stay as they were, and so does the spare room behind them.
func TestWhatIsHandedInStays(t *testing.T) {
	r := rand.New(rand.NewSource(30))
	for _, n := range sizes() {
		d := family(t, n)
		d.anyMark(r)
		room := make([]api.Sector, n+20)
		noise(r, room)
		copy(room[10:], d.l)
		was := slices.Clone(room)
		for range 2 {
			got, e := lay.Differ(room[10 : 10+n])
			is(t, e, api.OK)
			scribble(got, api.Write{At: 7, Data: api.Sector{7}})
			if !slices.Equal(room, was) {
				t.Fatalf("%d sectors: the list has changed", n)
			}
		}
		if _, e := lay.Differ(room[:63]); e != api.ErrSize || !slices.Equal(room, was) {
			t.Fatalf("%d sectors: the list has changed beside an error", n)
		}
	}
}

// P2: the store, its image and the list that this was made of stay as they were, whatever is asked of the store.
func TestTheStoreStays(t *testing.T) {
	for _, n := range sizes() {
		d := family(t, n)
		was := slices.Clone(d.l)
		m := d.mended()
		judged, want := m.Image().Sectors(), model(m)
		for k := range 3 {
			scribble(lay.Head(m), api.Sector{8})
			for _, s := range upTo(lay.All(m), 5*k) {
				s.Data[0]++
			}
			if !slices.Equal(d.l, was) || !slices.Equal(m.Image().Sectors(), judged) || !slices.Equal(model(m), want) {
				t.Fatalf("%d sectors: the store has changed", n)
			}
		}
	}
}

// P2: what the list of sectors is later is not seen, by an iterator that was there neither.
func TestWhatTheListIsLaterIsNotSeen(t *testing.T) {
	for _, n := range few() {
		d := family(t, n)
		m := d.mended()
		want, all := model(m), lay.All(m)
		writes := d.differ()
		kept := slices.Clone(writes)
		noise(rand.New(rand.NewSource(31)), d.l)
		if !slices.Equal(lay.Head(m), want) || !slices.Equal(upTo(all, -1), laidOut(want)) || !slices.Equal(writes, kept) {
			t.Errorf("%d sectors: what the list became is seen", n)
		}
	}
}

// P2: a list that Head answered may be written into and grown: no other answer sees it.
func TestHeadsAreNewMemory(t *testing.T) {
	for _, n := range sizes() {
		m := family(t, n).mended()
		want := model(m)
		one, two, all := lay.Head(m), lay.Head(m), lay.All(m)
		steps := 0
		for at, s := range all {
			if s != want[at] {
				t.Fatalf("%d sectors: %d is another", n, at)
			}
			if steps++; steps == 3 {
				scribble(one[:n/16], api.Sector{9})
			}
		}
		is(t, one[0], api.Sector{9})
		if !slices.Equal(two, want) || !slices.Equal(lay.Head(m), want) || !slices.Equal(upTo(all, -1), laidOut(want)) {
			t.Fatalf("%d sectors: one answer sees another", n)
		}
		scribble(two, api.Sector{10})
		is(t, one[0], api.Sector{9})
		if !slices.Equal(lay.Head(m), want) {
			t.Fatalf("%d sectors: one answer sees another", n)
		}
	}
}

// P2: a list that Differ answered may be written into and grown: no other answer sees it.
func TestWritesAreNewMemory(t *testing.T) {
	for _, n := range sizes() {
		d := family(t, n)
		want := d.differ()
		one, two := differ(t, d.l), differ(t, d.l)
		scribble(one[:len(one)/2], api.Write{At: -1})
		if !slices.Equal(two, want) || !slices.Equal(differ(t, d.l), want) {
			t.Fatalf("%d sectors: one answer sees another", n)
		}
		scribble(two, api.Write{At: -2})
		is(t, one[0].At, -1)
		if !slices.Equal(differ(t, d.l), want) {
			t.Fatalf("%d sectors: one answer sees another", n)
		}
	}
}

// P5: two stores of one image, and one of another disk, have nothing to do with each other.
func TestTwoStores(t *testing.T) {
	for _, n := range few() {
		d, other := family(t, n), house(t, 128)
		a, b, c := d.mended(), d.mended(), other.mended()
		want, far := model(a), model(c)
		i := 0
		for at, s := range lay.All(a) {
			is(t, s, want[at])
			if got := lay.Head(b); i%16 == 0 && !slices.Equal(got, want) {
				t.Fatalf("%d sectors: another head", n)
			}
			if got := upTo(lay.All(c), 1+i); !slices.Equal(got, laidOut(far)[:min(1+i, len(far)-9)]) {
				t.Fatalf("%d sectors: %v", n, places(got))
			}
			i++
		}
	}
}
