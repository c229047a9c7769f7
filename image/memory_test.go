package image_test

import (
	"math/rand"
	"slices"
	"sync"
	"testing"

	"assay/api"
)

// filled is a disk with a store, with a mark of the state, and torn sectors of counts and of the bitmap.
func filled(n, state int) []api.Sector {
	r := rand.New(rand.NewSource(int64(n)))
	l := store(r, n)
	l[2] = api.Sector{}
	p := placesOf(n)
	l[p.dir] = entryOf(api.Entry{State: 1, Start: p.data, Length: 100, Key: keyOf(1)})
	l[11] = flipped(bitmapOf(n, 1)[0], 9)
	l[p.count] = api.Sector{}
	if state != empty {
		commit(l, p.dir+1, p.data+1)
	}
	if state == rubbish {
		l[2] = flipped(l[2], 77)
	}
	return l
}

// P18.8, P2: what is handed in stays as it was, the room behind it too.
func TestWhatIsHandedInStays(t *testing.T) {
	for _, n := range []int{64, 481, 1024} {
		for _, state := range []int{empty, committed, rubbish} {
			room := append(filled(n, state), noise(rand.New(rand.NewSource(13)), 20)...)
			kept := slices.Clone(room)
			m := made(t, room[:n])
			m.Sectors()
			m.Bytes(api.Entry{State: 1, Start: n - 1, Length: 64})
			if m.Mark() != state || !slices.Equal(room, kept) {
				t.Errorf("%d sectors, the mark %d: %d", n, state, m.Mark())
			}
		}
	}
}

// P18.8: what the list is later isn't seen.
func TestWhatTheListIsLaterIsNotSeen(t *testing.T) {
	for _, n := range []int{64, 481, 1024} {
		for _, state := range []int{empty, committed, rubbish} {
			l := filled(n, state)
			kept := slices.Clone(l)
			d := judgedOf(kept)
			m := made(t, l)
			for range 2 {
				for i := range l {
					for k := range l[i] {
						l[i][k] += 0x55
					}
				}
				checkDisk(t, m, kept, d)
				checkSlots(t, m, d)
				checkSpread(t, m, d)
				clear(l)
			}
		}
	}
}

// scribble writes into a list and behind it, and appends to it, as a caller may.
func scribble[T any](l []T, v T) {
	l = append(l, v)
	l = l[:cap(l)]
	for i := range l {
		l[i] = v
	}
}

// P18.8, P2: each answer may be written into and grown; neither the image nor another answer sees it.
func TestAnswersAreNewMemory(t *testing.T) {
	for _, n := range []int{64, 481, 1024} {
		for _, state := range []int{empty, committed, rubbish} {
			l := filled(n, state)
			kept := slices.Clone(l)
			d := judgedOf(l)
			m := made(t, l)
			e, kind := m.Entry(0)
			if kind != right || len(m.Counts()) == 0 || len(m.Bitmaps()) == 0 {
				t.Fatal(kind, m.Counts(), m.Bitmaps())
			}
			one, two := m.Sectors(), m.Sectors()
			bytes, more := m.Bytes(e), m.Bytes(e)
			counts, again := m.Counts(), m.Counts()
			bitmaps, twice := m.Bitmaps(), m.Bitmaps()
			was, wasCounts, wasBitmaps := slices.Clone(more), slices.Clone(again), slices.Clone(twice)
			for i := range one {
				one[i][5] ^= 0xFF
			}
			scribble(one[:n-1], api.Sector{7})
			scribble(bytes[:50], 0xAA)
			scribble(counts[:0], 77)
			scribble(bitmaps[:0], 77)
			if !slices.Equal(two, d) || !slices.Equal(more, was) || !slices.Equal(again, wasCounts) || !slices.Equal(twice, wasBitmaps) {
				t.Fatalf("%d sectors, the mark %d: one answer sees another", n, state)
			}
			checkDisk(t, m, kept, d)
			checkSlots(t, m, d)
			checkSpread(t, m, d)
			scribble(two, api.Sector{8})
			scribble(more, 0xBB)
			scribble(again, -1)
			scribble(twice, -1)
			checkDisk(t, m, kept, d)
			checkSlots(t, m, d)
			checkSpread(t, m, d)
			if !slices.Equal(l, kept) {
				t.Fatalf("%d sectors, the mark %d: the list has changed", n, state)
			}
		}
	}
}

// P5: two images of one list, and images of others, have nothing to do with each other.
func TestTwoImages(t *testing.T) {
	l := filled(481, committed)
	a := made(t, l)
	kept := slices.Clone(l)
	l[0] = superOf(481)
	l[2] = api.Sector{}
	clear(l[200:])
	b := made(t, l)
	c := made(t, filled(64, rubbish))
	for range 2 {
		checkDisk(t, a, kept, judgedOf(kept))
		checkSlots(t, a, judgedOf(kept))
		checkSpread(t, a, judgedOf(kept))
		checkDisk(t, b, l, l)
		checkSlots(t, b, l)
		checkSpread(t, b, l)
		checkDisk(t, c, filled(64, rubbish), filled(64, rubbish))
	}
}

// P3: an image that many ask at once answers all of them alike.
func TestAtOnce(t *testing.T) {
	l := filled(1024, committed)
	d := judgedOf(l)
	m := made(t, l)
	var wait sync.WaitGroup
	for range 8 {
		wait.Go(func() {
			for i := range 1024 {
				scribble(m.Bitmaps(), i)
				scribble(m.Counts(), i)
				want, kind := api.Entry{}, 0
				if i < 128 {
					want, kind = readEntry(d[placesOf(1024).dir+i], 1024)
				}
				if e, k := m.Entry(i); e != want || k != kind || m.Sector(i) != d[i] {
					t.Errorf("%d: %v, %d", i, e, k)
				}
			}
			if !slices.Equal(m.Sectors(), d) || m.Mark() != committed {
				t.Error("the sectors")
			}
		})
	}
	wait.Wait()
}
