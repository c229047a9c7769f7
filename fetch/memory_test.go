package fetch_test

import (
	"math/rand"
	"slices"
	"sync"
	"testing"

	"assay/api"
	"assay/fetch"
)

// scribble writes into a list and into its spare room, and appends to it several times, as a caller may.
func scribble(l []api.Digest, v byte) {
	l = l[:cap(l)]
	for i := range l {
		l[i] = api.Digest{v}
	}
	for range 40 {
		l = append(l, api.Digest{v, 1})
	}
}

// P2: the image and the list that it was made of stay as they were.
func TestTheImageStays(t *testing.T) {
	r := rand.New(rand.NewSource(30))
	for _, n := range sizes() {
		d := family(t, n)
		d.anyMark(r)
		was := slices.Clone(d.l)
		im := d.image()
		judged, state := im.Sectors(), im.Mark()
		for range 3 {
			scribble(fetch.Plan(im), 7)
			scribble(fetch.Of(im, "v1"), 8)
			if !slices.Equal(d.l, was) || !slices.Equal(im.Sectors(), judged) || im.Mark() != state {
				t.Fatalf("%d sectors: the image has changed", n)
			}
		}
	}
}

// P2: an answer may be written into and grown, more than once: no other answer sees it.
func TestAnswersAreNewMemory(t *testing.T) {
	for _, n := range sizes() {
		im := family(t, n).image()
		plan, v1 := together(fetch.Plan(im)), together(fetch.Of(im, "v1"))
		is(t, len(plan), 4)
		is(t, len(v1), 2)
		one, two, of, again := fetch.Plan(im), fetch.Plan(im), fetch.Of(im, "v1"), fetch.Of(im, "v1")
		for v := range byte(3) {
			scribble(one, v)
			scribble(of, 9+v)
			scribble(one[:2], 20+v)
			scribble(of[:0], 30+v)
			if !slices.Equal(two, plan) || !slices.Equal(again, v1) {
				t.Fatalf("%d sectors: one answer sees another", n)
			}
			if !slices.Equal(fetch.Plan(im), plan) || !slices.Equal(fetch.Of(im, "v1"), v1) {
				t.Fatalf("%d sectors: a later answer sees one", n)
			}
		}
		is(t, one[0], api.Digest{22})
		is(t, of[0], api.Digest{32})
	}
}

// P3: the same image answers the same, however often and in whatever order it is asked; so does another one of the same disk.
func TestTheSameAnswers(t *testing.T) {
	r := rand.New(rand.NewSource(31))
	for _, n := range few() {
		d := byChance(t, r, n)
		im, other := d.image(), d.copy().image()
		names := append(read(im).names(), texts()...)
		want := map[string][]api.Digest{}
		for _, name := range names {
			want[name] = fetch.Of(im, name)
		}
		plan := fetch.Plan(im)
		for range 4 {
			r.Shuffle(len(names), func(i, k int) { names[i], names[k] = names[k], names[i] })
			for _, name := range names {
				if !slices.Equal(fetch.Of(im, name), want[name]) || !slices.Equal(fetch.Of(other, name), want[name]) {
					t.Fatalf("%d sectors: of %q another answer", n, name)
				}
				if r.Intn(4) == 0 && !slices.Equal(fetch.Plan(im), plan) {
					t.Fatalf("%d sectors: another plan", n)
				}
			}
		}
	}
}

// P3: a map's order is not seen: many digests, asked for again and again.
func TestTheOrderIsNotAMaps(t *testing.T) {
	d := zeros(t, 1024)
	for at := range 20 {
		d.tag(at, "v1", d.doc(at, api.Index, gone(3*at), gone(3*at+1), gone(3*at+2)).Key)
	}
	im := d.image()
	want := together(keysUpTo(60))
	for range 60 {
		if !slices.Equal(fetch.Plan(im), want) || !slices.Equal(fetch.Of(im, "v1"), want) {
			t.Fatal("another order")
		}
	}
}

// P5: images have nothing to do with each other; one may be asked by several at once.
func TestTwoImages(t *testing.T) {
	a, b := family(t, 64).image(), family(t, 128)
	b.tag(1, "v2", b.doc(9, api.Manifest, gone(9)).Key)
	both := b.image()
	was := fetch.Plan(a)
	var wait sync.WaitGroup
	for range 4 {
		wait.Add(1)
		go func() {
			defer wait.Done()
			for range 10 {
				if !slices.Equal(fetch.Plan(a), was) || len(fetch.Of(a, "v2")) != 0 || len(fetch.Of(both, "v2")) != 1 || len(fetch.Plan(both)) != 5 {
					t.Error("one image sees the other")
				}
			}
		}()
	}
	wait.Wait()
}

// P2: what the list of sectors is later is not seen.
func TestWhatTheListIsLaterIsNotSeen(t *testing.T) {
	for _, n := range few() {
		d := family(t, n)
		im := d.image()
		plan := fetch.Plan(im)
		kept := slices.Clone(plan)
		noise(rand.New(rand.NewSource(32)), d.l)
		if !slices.Equal(plan, kept) || !slices.Equal(fetch.Plan(im), kept) {
			t.Errorf("%d sectors: what the list became is seen", n)
		}
	}
}
