package links_test

import (
	"bytes"
	"math"
	"math/rand"
	"slices"
	"sync"
	"testing"

	"assay/api"
	"assay/links"
)

// self is the descriptor that meets the blob of a slot.
func self(slot int) api.Desc { return api.Desc{Key: api.Digest{byte(slot), 1}, Size: slot * 3} }

// gone is the descriptor of a blob that is nowhere.
func gone(i int) api.Desc { return api.Desc{Key: api.Digest{byte(i), 2}, Size: i} }

// other is a descriptor with a size that isn't the blob's.
func other(slot int) api.Desc { return api.Desc{Key: self(slot).Key, Size: slot*3 + 1} }

// blobs is one a slot, each of which names such descriptors.
func blobs(names ...[]api.Desc) []links.Blob {
	var l []links.Blob
	for slot, named := range names {
		l = append(l, links.Blob{There: true, Self: self(slot), Names: named})
	}
	return l
}

// descs is a list of descriptors.
func descs(l ...api.Desc) []api.Desc { return l }

// model is the same by other means: who leads to whom as a table, closed by a third one between each two; who is whole by striking out, till nobody is left to be struck out.
type model struct {
	blobs []links.Blob
	leads [][]bool
	whole []bool
}

// meeting is the slot that a descriptor meets.
func (m model) meeting(d api.Desc) (int, bool) {
	at := slices.IndexFunc(m.blobs, func(b links.Blob) bool { return b.There && b.Self == d })
	return max(at, 0), at >= 0
}

// modelOf is the model of some blobs.
func modelOf(l []links.Blob) model {
	m := model{blobs: l, leads: make([][]bool, len(l)), whole: make([]bool, len(l))}
	for i, b := range l {
		m.whole[i] = b.There
		m.leads[i] = make([]bool, len(l))
		m.leads[i][i] = b.There
		for _, d := range b.Names {
			if at, ok := m.meeting(d); ok && b.There {
				m.leads[i][at] = true
			}
		}
	}
	for k := range l {
		for i := range l {
			for j := range l {
				m.leads[i][j] = m.leads[i][j] || m.leads[i][k] && m.leads[k][j]
			}
		}
	}
	for range l {
		for i, b := range l {
			for _, d := range b.Names {
				at, ok := m.meeting(d)
				m.whole[i] = m.whole[i] && ok && m.whole[at]
			}
		}
	}
	return m
}

// reached is what is reached from some slots.
func (m model) reached(slots []int) []int {
	var l []int
	for to := range m.blobs {
		if slices.ContainsFunc(slots, func(i int) bool { return i >= 0 && i < len(m.blobs) && m.leads[i][to] }) {
			l = append(l, to)
		}
	}
	return l
}

// missing is what is missing from some slots on.
func (m model) missing(slots []int) []api.Digest {
	var l []api.Digest
	for _, slot := range m.reached(slots) {
		for _, d := range m.blobs[slot].Names {
			if !slices.ContainsFunc(m.blobs, func(b links.Blob) bool { return b.There && b.Self.Key == d.Key }) && !slices.Contains(l, d.Key) {
				l = append(l, d.Key)
			}
		}
	}
	slices.SortFunc(l, func(a, b api.Digest) int { return bytes.Compare(a[:], b[:]) })
	return l
}

// degree is how many descriptors meet a slot's blob.
func (m model) degree(slot int) int {
	many := 0
	for _, b := range m.blobs {
		for _, d := range b.Names {
			if at, ok := m.meeting(d); ok && b.There && at == slot {
				many++
			}
		}
	}
	return many
}

// check holds all that is told of some blobs against the model.
func check(t *testing.T, blobs []links.Blob) *links.Links {
	t.Helper()
	l, m := links.Of(blobs), modelOf(blobs)
	for i := -2; i < len(blobs)+2; i++ {
		var b links.Blob
		whole, degree := false, 0
		if i >= 0 && i < len(blobs) && blobs[i].There {
			b, whole, degree = blobs[i], m.whole[i], m.degree(i)
		}
		if l.Whole(i) != whole || l.Degree(i) != degree || !slices.Equal(l.Names(i), b.Names) {
			t.Fatalf("slot %d of %v: %v, %d, %v", i, blobs, l.Whole(i), l.Degree(i), l.Names(i))
		}
		for k := i; k < len(blobs)+1; k++ {
			checkLists(t, l, m, k, i, k)
		}
		for _, d := range append(slices.Clone(b.Names), b.Self, self(i), other(i), gone(i), api.Desc{}) {
			want, is := m.meeting(d)
			if at, ok := l.Meets(d); at != want || ok != is {
				t.Fatalf("Meets(%v) among %v: %d, %v", d, blobs, at, ok)
			}
		}
	}
	checkLists(t, l, m)
	return l
}

// checkLists holds what is reached and missed from some slots against the model.
func checkLists(t *testing.T, l *links.Links, m model, slots ...int) {
	t.Helper()
	if got := l.Reached(slots...); !slices.Equal(got, m.reached(slots)) {
		t.Fatalf("Reached(%v) among %v: %v", slots, m.blobs, got)
	}
	if got := l.Missing(slots...); !slices.Equal(got, m.missing(slots)) {
		t.Fatalf("Missing(%v) among %v: %x", slots, m.blobs, got)
	}
}

// told is what is told of some blobs: which are whole, and the degrees.
func told(l *links.Links, slots int) ([]bool, []int) {
	var whole []bool
	var degrees []int
	for slot := range slots {
		whole = append(whole, l.Whole(slot))
		degrees = append(degrees, l.Degree(slot))
	}
	return whole, degrees
}

// P20.4 to P20.7: one that names itself, and rings of two and of three; with nothing missing, with something missing, and with a size that isn't right.
func TestRings(t *testing.T) {
	for _, c := range []struct {
		names   [][]api.Desc
		whole   []bool
		degrees []int
		from    []int // reached from slot 0
	}{
		{[][]api.Desc{{self(0)}}, []bool{true}, []int{1}, []int{0}},
		{[][]api.Desc{{self(0), self(0)}}, []bool{true}, []int{2}, []int{0}},
		{[][]api.Desc{{self(0), gone(1)}}, []bool{false}, []int{1}, []int{0}},
		{[][]api.Desc{{other(0)}}, []bool{false}, []int{0}, []int{0}},
		{[][]api.Desc{{self(1)}, {self(0)}}, []bool{true, true}, []int{1, 1}, []int{0, 1}},
		{[][]api.Desc{{self(1)}, {gone(1), self(0)}}, []bool{false, false}, []int{1, 1}, []int{0, 1}},
		{[][]api.Desc{{self(1)}, {other(0)}}, []bool{false, false}, []int{0, 1}, []int{0, 1}},
		{[][]api.Desc{{self(1)}, {self(2)}, {self(0)}}, []bool{true, true, true}, []int{1, 1, 1}, []int{0, 1, 2}},
		{[][]api.Desc{{self(1)}, {self(2)}, {self(0), gone(1)}}, []bool{false, false, false}, []int{1, 1, 1}, []int{0, 1, 2}},
		{[][]api.Desc{{self(2)}, {self(0), self(1)}, {self(1), self(0)}}, []bool{true, true, true}, []int{2, 2, 1}, []int{0, 1, 2}},
		// A ring with one that leads into it, and one that it leads to: what is missing behind it is all theirs, what is missing ahead of it isn't.
		{[][]api.Desc{{self(1)}, {self(2)}, {self(1), self(3)}, nil}, []bool{true, true, true, true}, []int{0, 2, 1, 1}, []int{0, 1, 2, 3}},
		{[][]api.Desc{{self(1)}, {self(2)}, {self(1), self(3)}, {gone(1)}}, []bool{false, false, false, false}, []int{0, 2, 1, 1}, []int{0, 1, 2, 3}},
		{[][]api.Desc{{self(1), gone(1)}, {self(2)}, {self(1), self(3)}, nil}, []bool{false, true, true, true}, []int{0, 2, 1, 1}, []int{0, 1, 2, 3}},
		// Two rings that share one.
		{[][]api.Desc{{self(1)}, {self(0), self(2)}, {self(1)}}, []bool{true, true, true}, []int{1, 2, 1}, []int{0, 1, 2}},
		// Two rings side by side, of which one misses something.
		{[][]api.Desc{{self(1)}, {self(0)}, {self(3)}, {self(2), gone(9)}}, []bool{true, true, false, false}, []int{1, 1, 1, 1}, []int{0, 1}},
	} {
		l := check(t, blobs(c.names...))
		whole, degrees := told(l, len(c.names))
		if from := l.Reached(0); !slices.Equal(whole, c.whole) || !slices.Equal(degrees, c.degrees) || !slices.Equal(from, c.from) {
			t.Errorf("%v: %v, %v, %v", c.names, whole, degrees, from)
		}
	}
}

// P20.4 to P20.7: a ring of as many as a disk may have slots, and beside it all of them named by all.
func TestGreatRings(t *testing.T) {
	const many = 128
	for _, lack := range [][]api.Desc{nil, {gone(1)}, {other(5)}} {
		ring := make([]links.Blob, many)
		for i := range ring {
			ring[i] = links.Blob{There: true, Self: self(i), Names: descs(self((i + 1) % many))}
		}
		ring[many-1].Names = append(ring[many-1].Names, lack...)
		l := links.Of(ring)
		for i := range ring {
			if l.Whole(i) != (lack == nil) || l.Degree(i) != 1 || len(l.Reached(i)) != many || len(l.Missing(i, 0)) > 1 {
				t.Fatalf("slot %d: %v, %d, %d", i, l.Whole(i), l.Degree(i), len(l.Reached(i)))
			}
		}
	}
	var all []api.Desc
	for i := range many {
		all = append(all, self(i))
	}
	crowd := make([]links.Blob, many)
	for i := range crowd {
		crowd[i] = links.Blob{There: true, Self: self(i), Names: all}
	}
	l := links.Of(crowd)
	for i := range crowd {
		if !l.Whole(i) || l.Degree(i) != many || len(l.Reached(i)) != many || len(l.Missing(i)) != 0 {
			t.Fatalf("slot %d: %v, %d", i, l.Whole(i), l.Degree(i))
		}
	}
}

// P20.2 to P20.6: one that isn't there is nobody, whatever else is told of it: it breaks a ring.
func TestNotThere(t *testing.T) {
	l := blobs(descs(self(1)), descs(self(2), gone(1)), descs(self(0)))
	l[1].There = false
	got := check(t, l)
	whole, degrees := told(got, 3)
	if !slices.Equal(whole, []bool{false, false, false}) || !slices.Equal(degrees, []int{1, 0, 0}) || len(got.Reached(1)) != 0 || len(got.Missing(1)) != 0 || len(got.Names(1)) != 0 {
		t.Error(whole, degrees, got.Reached(1), got.Missing(1), got.Names(1))
	}
	if missing := got.Missing(2); !slices.Equal(missing, []api.Digest{self(1).Key}) {
		t.Errorf("%x", missing)
	}
	// The zero descriptor meets nobody who isn't there.
	if at, ok := links.Of(make([]links.Blob, 3)).Meets(api.Desc{}); at != 0 || ok {
		t.Error(at, ok)
	}
}

// byChance is blobs that name each other in any way, rings among them.
func byChance(r *rand.Rand) []links.Blob {
	l := make([]links.Blob, r.Intn(12))
	dense, lack := 1+r.Intn(4), 2+r.Intn(40)
	for i := range l {
		l[i] = links.Blob{There: r.Intn(lack) > 0, Self: self(i)}
		for range r.Intn(dense) {
			d := self(r.Intn(len(l)))
			switch r.Intn(lack) {
			case 0:
				d = gone(r.Intn(3))
			case 1:
				d.Size++
			}
			l[i].Names = append(l[i].Names, d)
		}
	}
	return l
}

// P20.2 to P20.7: any links by chance.
func TestByChance(t *testing.T) {
	r := rand.New(rand.NewSource(1))
	rings, whole := 0, 0
	for range 4000 {
		l := byChance(r)
		got := check(t, l)
		degrees, met := 0, 0
		for slot, b := range l {
			reached := got.Reached(slot)
			degrees += got.Degree(slot)
			for _, d := range got.Names(slot) {
				at, ok := got.Meets(d)
				if ok {
					met++
				}
				if ok && b.There && slices.Contains(got.Reached(at), slot) {
					rings++
					if got.Whole(slot) {
						whole++
					}
				}
			}
			if again := got.Reached(reached...); !slices.Equal(again, reached) {
				t.Fatalf("%v: %v, then %v", l, reached, again)
			}
		}
		if degrees != met {
			t.Fatalf("%v: the degrees add up to %d, and %d meet", l, degrees, met)
		}
	}
	if rings < 500 || whole < 100 || rings-whole < 100 {
		t.Errorf("%d in rings, %d of them whole: too few to tell", rings, whole)
	}
}

// P1: nil links, and slots far off.
func TestNobody(t *testing.T) {
	var none *links.Links
	for _, l := range []*links.Links{none, links.Of(nil), links.Of(blobs(nil, descs(self(0))))} {
		for _, slot := range []int{math.MinInt, -1 << 32, -1, 2, 1 << 32, 1<<32 + 1, math.MaxInt} {
			if l.Whole(slot) || l.Degree(slot) != 0 || len(l.Names(slot)) != 0 || len(l.Reached(slot)) != 0 || len(l.Missing(slot)) != 0 {
				t.Errorf("slot %d is somebody", slot)
			}
		}
		if at, ok := l.Meets(gone(1)); at != 0 || ok || len(l.Reached()) != 0 || len(l.Missing()) != 0 {
			t.Error(at, ok, l.Reached(), l.Missing())
		}
	}
}

// fill writes into a list and behind it, as a caller may.
func fill[T any](l []T, v T) {
	for i := range l[:cap(l)] {
		l[:cap(l)][i] = v
	}
}

// P2: what is handed in stays, and what becomes of it isn't seen; answers are new memory.
func TestMemory(t *testing.T) {
	names := descs(self(1), gone(1), self(0), gone(2))
	l := blobs(names[:3], descs(self(0), gone(3)))
	want := modelOf(blobs(slices.Clone(names[:3]), descs(self(0), gone(3))))
	got := links.Of(l)
	if !slices.Equal(names, descs(self(1), gone(1), self(0), gone(2))) || !slices.Equal(l[1].Names, descs(self(0), gone(3))) {
		t.Error("what was handed in has changed")
	}
	fill(names, api.Desc{Size: 5})
	fill(l[1].Names, api.Desc{Size: 6})
	clear(l)
	for range 2 {
		named, reached, missing := got.Names(0), got.Reached(0), got.Missing(0)
		if !slices.Equal(named, want.blobs[0].Names) || !slices.Equal(reached, []int{0, 1}) || !slices.Equal(missing, []api.Digest{gone(1).Key, gone(3).Key}) || got.Degree(0) != 2 || got.Degree(1) != 1 {
			t.Fatal(named, reached, missing)
		}
		fill(named, api.Desc{Size: 7})
		fill(reached, 1)
		fill(missing, api.Digest{7})
	}
	slots := []int{1, 0, 1, -1, 0}
	got.Reached(slots[:3]...)
	got.Missing(slots[:3]...)
	if !slices.Equal(slots, []int{1, 0, 1, -1, 0}) {
		t.Error(slots)
	}
}

// P3: many may ask at once.
func TestAtOnce(t *testing.T) {
	l := blobs(descs(self(1)), descs(self(2), gone(1)), descs(self(0)))
	got := links.Of(l)
	var wait sync.WaitGroup
	for range 8 {
		wait.Go(func() {
			for slot := range 300 {
				if reached := got.Reached(slot % 3); len(reached) != 3 || got.Whole(slot%3) || got.Degree(slot%3) != 1 || len(got.Missing(slot%3)) != 1 {
					t.Error(slot, reached)
				}
			}
		})
	}
	wait.Wait()
}
