package maker_test

import (
	"bytes"
	"math/rand"
	"slices"
	"testing"

	"assay/api"
	"assay/maker"
)

// scribble writes into a list and into its spare room, and appends to it several times, as a caller may.
func scribble[T any](l []T, v T) {
	l = l[:cap(l)]
	for i := range l {
		l[i] = v
	}
	for range 40 {
		l = append(l, v)
	}
}

// P2: what is handed to Put stays as it was, and the spare room behind it too, be it put or refused.
func TestTheBytesStay(t *testing.T) {
	for _, long := range []int{0, 4097} {
		m, _ := maker.New(1024)
		room := []byte(text(1, 9000))
		was := bytes.Clone(room)
		l := make([][]byte, 6, 9)
		for i, length := range []int{0, 1, 63, 65, 700, long} {
			l[i] = room[700*i : 700*i+length]
		}
		l = append(l, room[5000:5100])[:6]
		lengths := func() []int {
			var n []int
			for _, b := range l[:9] {
				n = append(n, len(b))
			}
			return n
		}
		before := lengths()
		keys, e := m.Put(l...)
		if long == 0 && (e != api.OK || len(keys) != 6) || long > 0 && e != api.ErrLong {
			t.Fatalf("%v, %d", keys, e)
		}
		if !bytes.Equal(room, was) || !slices.Equal(lengths(), before) || &l[:7][6][0] != &room[5000] {
			t.Errorf("%d: it has changed", long)
		}
	}
}

// P2: what was handed in may be written over afterwards: bytes, and the list of them.
func TestTheBytesAreNotKept(t *testing.T) {
	for _, n := range few() {
		p := made(t, n)
		b := []byte(text(1, 300))
		parts := [][]byte{b[:65], b[65:65], b[65:66], b[66:300], []byte(page(t, api.Index, nowhere(1)))}
		var l []string
		for _, part := range parts {
			l = append(l, string(part))
		}
		if _, e := p.m.Put(parts...); e != api.OK {
			t.Fatal(e)
		}
		p.model.put(l...)
		for v := range byte(3) {
			scribble(parts[4], v)
			scribble(b, v)
			p.check()
		}
		scribble(parts, []byte("other"))
		p.check()
		p.put(api.OK, l...)
		p.one("nowhere1")
		p.pin(api.OK, "v1", keyOf(l[4]))
		p.check()
	}
}

// P2: digests and sectors that are answered may be written over and grown, more than once: no other answer turns.
func TestAnswersAreNewMemory(t *testing.T) {
	for _, n := range few() {
		p := made(t, n)
		l := []string{"abc", "", text(1, 200), "abc"}
		p.put(api.OK, l...)
		p.pin(api.OK, "v1", keyOf("abc"))
		p.shoot(api.OK, 1, 0, keyOf("abc"))
		want := []api.Digest{keyOf(l[0]), keyOf(l[1]), keyOf(l[2]), keyOf(l[3])}
		keys, _ := p.m.Put(list(l)...)
		others, _ := p.m.Put(list(l)...)
		one, two := p.m.Sectors(), p.m.Sectors()
		was := slices.Clone(two)
		for v := range byte(3) {
			scribble(keys, api.Digest{v})
			scribble(keys[:1], api.Digest{v, v})
			scribble(one, api.Sector{v})
			scribble(one[:7], api.Sector{v, v})
			if !slices.Equal(others, want) || !slices.Equal(two, was) {
				t.Fatalf("%d sectors: one answer sees another", n)
			}
			p.check()
			again, e := p.m.Put(list(l)...)
			if e != api.OK || !slices.Equal(again, want) {
				t.Fatalf("%d sectors: a later answer sees one", n)
			}
		}
		p.put(api.OK, "behind it")
		if !slices.Equal(two, was) {
			t.Fatalf("%d sectors: an answer sees a later call", n)
		}
		p.check()
	}
}

// P5: two Makers have nothing to do with each other, of one size or not: each is as if it were alone.
func TestTwoMakers(t *testing.T) {
	for _, n := range []int{64, 128, 1024} {
		r := rand.New(rand.NewSource(int64(n)))
		one, two, still := made(t, n), made(t, n), made(t, 64)
		still.put(api.OK, "abc", "still")
		still.pin(api.OK, "v1", keyOf("abc"))
		still.shoot(api.OK, 1, 0, keyOf("abc"))
		for range 40 {
			one.anyCall(r)
			two.same()
			two.anyCall(r)
			one.same()
		}
		one.check()
		two.check()
		still.check()
	}
}

// told is all that a Maker answers.
type told struct {
	keys [][]api.Digest
	ends []api.Errno
	disk [][]api.Sector
}

// calls is a row of calls by chance, and what they answer.
func calls(n int, seed int64) told {
	r := rand.New(rand.NewSource(seed))
	var all told
	m, e := maker.New(n)
	all.ends = append(all.ends, e)
	var keys []api.Digest
	for i := range 60 {
		switch r.Intn(4) {
		case 0, 1:
			got, e := m.Put([]byte(text(r.Intn(30), r.Intn(300))), []byte(text(r.Intn(9), 1)))
			all.keys, all.ends = append(all.keys, got), append(all.ends, e)
			keys = append(keys, got...)
		case 2:
			all.ends = append(all.ends, m.Tag(text(r.Intn(60), 5)[3:], anyOf(r, append(keys, api.Digest{}))))
		case 3:
			snap := api.Snap{ID: uint32(r.Intn(30)), Parent: uint32(r.Intn(3)), Layer: anyOf(r, append(keys, api.Digest{}))}
			all.ends = append(all.ends, m.Snap(snap))
		}
		if i%10 == 9 {
			all.disk = append(all.disk, m.Sectors())
		}
	}
	return all
}

// P3: the same calls answer the same, however often.
func TestTheSameCalls(t *testing.T) {
	for _, n := range few() {
		for seed := range int64(5) {
			want := calls(n, seed)
			for range 3 {
				got := calls(n, seed)
				if !slices.Equal(got.ends, want.ends) || !slices.EqualFunc(got.keys, want.keys, slices.Equal[[]api.Digest]) || !slices.EqualFunc(got.disk, want.disk, slices.Equal[[]api.Sector]) {
					t.Fatalf("%d sectors, %d: other answers", n, seed)
				}
			}
		}
	}
}

// P29.2 to P29.4: a call that is refused changes nothing, however often it is asked, and what is taken behind it is as if it had not been.
func TestRefusedOften(t *testing.T) {
	for _, n := range few() {
		p, q := made(t, n), made(t, n)
		for _, x := range []*pair{p, q} {
			x.put(api.OK, "abc", "def")
			x.pin(api.OK, "v1", keyOf("abc"))
			x.shoot(api.OK, 1, 0, keyOf("def"))
		}
		var crowd []string
		for i := range p.slots {
			crowd = append(crowd, text(i, 9))
		}
		for range 30 {
			p.put(api.ErrLong, "new", text(1, 4097))
			p.put(api.ErrFull, crowd...)
			p.pin(api.ErrName, "", keyOf("abc"))
			p.pin(api.ErrTwice, "v1", keyOf("abc"))
			p.pin(api.ErrEmpty, "v2", keyOf("new"))
			p.shoot(api.ErrArg, 0, 0, keyOf("abc"))
			p.shoot(api.ErrTwice, 1, 0, keyOf("abc"))
			p.shoot(api.ErrEmpty, 2, 3, keyOf("abc"))
		}
		for _, x := range []*pair{p, q} {
			x.put(api.OK, "new", text(1, 900))
			x.pin(api.OK, "v2", keyOf("new"))
			x.shoot(api.OK, 2, 1, keyOf("abc"))
			x.check()
		}
		if !slices.Equal(p.m.Sectors(), q.m.Sectors()) {
			t.Errorf("%d sectors: a refused call is seen", n)
		}
	}
}
