package mend_test

import (
	"math/rand"
	"slices"
	"sync"
	"testing"

	"assay/api"
	"assay/mend"
)

// crowd is a family with more in it than its quarantine has room for: the last slots are dropped.
func crowd(t *testing.T, n int) *disk {
	d := family(t, n)
	for at := range d.g.Slots {
		if d.l[d.g.Dir+at] == (api.Sector{}) || at > d.at(4) {
			d.corrupt(at, "crowd")
		}
	}
	return d
}

// scribble writes into a list and behind it, and appends to it, as a caller may.
func scribble(l []int, v int) {
	l = append(l, v)
	l = l[:cap(l)]
	for i := range l {
		l[i] = v
	}
}

// P2: the image is as it was, and so is the list that it was made of, whatever is asked.
func TestWhatIsHandedInStays(t *testing.T) {
	for _, n := range sizes() {
		for _, d := range []*disk{family(t, n), crowd(t, n)} {
			was := slices.Clone(d.l)
			im := imageOf(t, d.l)
			judged := im.Sectors()
			m := mend.Of(im)
			for range 2 {
				ask(t, m)
				scribble(m.Dropped(), 7)
			}
			if !slices.Equal(d.l, was) || !slices.Equal(im.Sectors(), judged) || m.Image() != im {
				t.Errorf("%d sectors: the image has changed", n)
			}
			same(t, read(im), read(imageOf(t, was)))
		}
	}
}

// P2: what the list of sectors is later isn't seen.
func TestWhatTheListIsLaterIsNotSeen(t *testing.T) {
	for _, n := range few() {
		d := crowd(t, n)
		im := imageOf(t, d.l)
		m, want := mend.Of(im), read(im)
		noise(rand.New(rand.NewSource(3)), d.l)
		same(t, ask(t, m), want)
		same(t, ask(t, mend.Of(im)), want)
		clear(d.l)
		same(t, ask(t, m), want)
	}
}

// P2: a list that Dropped answered may be written into and grown: no other answer sees it.
func TestAnswersAreNewMemory(t *testing.T) {
	for _, n := range sizes() {
		m := mend.Of(imageOf(t, crowd(t, n).l))
		want := ask(t, m)
		if len(want.dropped) < 2 {
			t.Fatalf("%d sectors: too few to tell: %v", n, want.dropped)
		}
		one, two := m.Dropped(), m.Dropped()
		scribble(one[:len(one)/2], -7)
		if !slices.Equal(two, want.dropped) {
			t.Fatalf("%d sectors: one answer sees another: %v", n, two)
		}
		same(t, ask(t, m), want)
		scribble(two, -8)
		if one[0] != -7 {
			t.Fatalf("%d sectors: one answer sees another: %v", n, one)
		}
		same(t, ask(t, m), want)
	}
}

// P5: two of one image, and others of other images, have nothing to do with each other.
func TestTwoOfOneImage(t *testing.T) {
	for _, n := range few() {
		im := imageOf(t, crowd(t, n).l)
		a, b := mend.Of(im), mend.Of(im)
		c := mend.Of(imageOf(t, family(t, 128).l))
		if a == b || a.Image() != b.Image() {
			t.Error("one for two")
		}
		want, other := ask(t, b), ask(t, c)
		for range 2 {
			scribble(a.Dropped(), 9)
			same(t, ask(t, a), want)
			same(t, ask(t, b), want)
			same(t, ask(t, c), other)
		}
	}
}

// P3: the same again and again, and the same for many who ask at once.
func TestTheSameAgain(t *testing.T) {
	r := rand.New(rand.NewSource(63))
	for _, n := range few() {
		im := imageOf(t, byChance(t, r, n).l)
		m := mend.Of(im)
		want := ask(t, m)
		var all sync.WaitGroup
		for range 8 {
			all.Go(func() {
				for _, x := range []*mend.Mended{m, mend.Of(im)} {
					for at := range 128 {
						e, _ := x.Entry(at)
						tag, _ := x.Tag(at)
						snap, _ := x.Snap(at)
						if e != want.entries[at] || tag != want.tags[at] || snap != want.snaps[at] || x.Count(at) != want.counts[at] || x.Taken(at+64) != want.taken[at+64] {
							t.Errorf("%d sectors, %d: %v, %v, %v", n, at, e, tag, snap)
						}
					}
					if l := x.Dropped(); !slices.Equal(l, want.dropped) {
						t.Errorf("%d sectors: %v", n, l)
					}
				}
			})
		}
		all.Wait()
	}
}

// P2: entries, tags and snapshots that are told are values: whoever changes one changes nothing else.
func TestWhatIsToldIsAValue(t *testing.T) {
	d := family(t, 64)
	m := d.mended()
	want := ask(t, m)
	e, _ := m.Entry(0)
	tag, _ := m.Tag(0)
	snap, _ := m.Snap(0)
	e.State, e.Key[0], tag.Key[0], snap.Layer[0], snap.Parent = 9, e.Key[0]+1, tag.Key[0]+1, snap.Layer[0]+1, 77
	same(t, ask(t, m), want)
	if (api.Entry{}) == e || (api.Tag{}) == tag || (api.Snap{}) == snap {
		t.Error("nothing was told")
	}
}
