package audit_test

import (
	"math/rand"
	"slices"
	"testing"

	"assay/api"
	"assay/audit"
)

// scribble writes into a list and behind it, and appends to it, as a caller may.
func scribble[T any](l []T, v T) {
	l = append(l, v)
	l = l[:cap(l)]
	for i := range l {
		l[i] = v
	}
}

// P2: the image is as it was, and so is the list that it was made of.
func TestTheImageStays(t *testing.T) {
	r := rand.New(rand.NewSource(40))
	for _, d := range []*disk{wreck(t), zeros(t, 64), byChance(t, r, 64), byChance(t, r, 1024)} {
		was := slices.Clone(d.l)
		im := d.image()
		judged, want := im.Sectors(), read(d.image()).findings()
		for workers := 1; workers <= 8; workers++ {
			scribble(found(t, im, workers), f(1, 1))
			scribble(parts(t, im, workers, 3, 4, 18), f(1, 1))
		}
		if !slices.Equal(d.l, was) || !slices.Equal(im.Sectors(), judged) || !slices.Equal(read(im).findings(), want) {
			t.Errorf("%d sectors: the image has changed", len(was))
		}
	}
}

// P2: what the list of sectors is later isn't seen.
func TestWhatTheListIsLaterIsNotSeen(t *testing.T) {
	d := wreck(t)
	im := d.image()
	want := found(t, im, 1)
	clear(d.l)
	if got := found(t, im, 8); !slices.Equal(got, want) {
		t.Errorf("%v, want %v", got, want)
	}
}

// P2: the list of kinds stays as it is, and so does the room behind it; it isn't kept.
func TestKindsHandedInStay(t *testing.T) {
	im := wreck(t).image()
	all := found(t, im, 1)
	room := []int{19, 4, -1, 4, 2, 100, 1, 19, 3, 2, 1, 5, 18}
	for n := range len(room) {
		l := slices.Clone(room)
		got := parts(t, im, 1+n%8, l[:n]...)
		if !slices.Equal(l, room) {
			t.Fatalf("%v has become %v", room, l)
		}
		scribble(l, 4)
		if !slices.Equal(got, only(all, room[:n]...)) {
			t.Fatalf("of %v: %v", room[:n], got)
		}
	}
	for _, workers := range []int{0, 9} {
		l := slices.Clone(room)
		if _, e := audit.Parts(im, workers, l...); e != api.ErrArg || !slices.Equal(l, room) {
			t.Errorf("%d workers: %d, %v has become %v", workers, e, room, l)
		}
	}
}

// P2: each answer may be written into and grown, and no other one sees it.
func TestAnswersAreNewMemory(t *testing.T) {
	for _, d := range []*disk{wreck(t), zeros(t, 64), emptyStore(t, 64)} {
		im := d.image()
		want := found(t, im, 1)
		for _, ask := range []func() []api.Finding{
			func() []api.Finding { return found(t, im, 1) },
			func() []api.Finding { return found(t, im, 8) },
			func() []api.Finding { return parts(t, im, 2, kinds()...) },
		} {
			one, two := ask(), ask()
			scribble(one[:len(one)/2], f(-7, -7))
			if !slices.Equal(two, want) || !slices.Equal(ask(), want) {
				t.Fatalf("a change is seen: %v", want)
			}
			scribble(two, f(-8, -8))
			if !slices.Equal(ask(), want) || len(one) > 0 && one[0] != f(-7, -7) {
				t.Fatalf("a change is seen: %v", want)
			}
		}
	}
}
