package table_test

import (
	"encoding/binary"
	"math"
	"math/rand"
	"testing"

	"assay/api"
	"assay/table"
)

// toldSnap is a snapshot's sector as the chapter tells it, of an id that may be 0.
func toldSnap(x api.Snap) api.Sector {
	s := api.Sector{0x53}
	binary.LittleEndian.PutUint32(s[4:], x.ID)
	binary.LittleEndian.PutUint32(s[8:], x.Parent)
	copy(s[12:44], x.Layer[:])
	return sum(s)
}

// readSnap says what GetSnap should, byte by byte.
func readSnap(s api.Sector) (api.Snap, int) {
	if zeros(s[:]) {
		return api.Snap{}, table.Free
	}
	if s != sum(s) || s[0] != 0x53 || !zeros(s[1:4]) || zeros(s[4:8]) || !zeros(s[44:60]) {
		return api.Snap{}, table.Torn
	}
	return api.Snap{
		ID:     uint32(s[4]) + 256*uint32(s[5]) + 65536*uint32(s[6]) + 16777216*uint32(s[7]),
		Parent: uint32(s[8]) + 256*uint32(s[9]) + 65536*uint32(s[10]) + 16777216*uint32(s[11]),
		Layer:  api.Digest(s[12:44]),
	}, table.Right
}

// checkGetSnap holds GetSnap against the chapter's words, and PutSnap of a right one against the sector.
func checkGetSnap(t *testing.T, s api.Sector) {
	t.Helper()
	want, kind := readSnap(s)
	x, k := table.GetSnap(s)
	if x != want || k != kind {
		t.Fatalf("GetSnap(% x): %v, %d, want %v, %d", s, x, k, want, kind)
	}
	if k != table.Right {
		return
	}
	if r, e := table.PutSnap(x); r != s || e != api.OK {
		t.Fatalf("% x back: % x, %d", s, r, e)
	}
}

// checkPutSnap holds PutSnap against the chapter's words, and GetSnap of what it answers against the snapshot.
func checkPutSnap(t *testing.T, x api.Snap) {
	t.Helper()
	s, e := table.PutSnap(x)
	if x.ID == 0 {
		if s != (api.Sector{}) || e != api.ErrArg {
			t.Fatalf("PutSnap(%v): % x, %d, want zeros, ErrArg", x, s, e)
		}
		return
	}
	if want := toldSnap(x); s != want || e != api.OK {
		t.Fatalf("PutSnap(%v): % x, %d, want % x", x, s, e, want)
	}
	if g, kind := table.GetSnap(s); g != x || kind != table.Right {
		t.Fatalf("%v there and back: %v, %d", x, g, kind)
	}
}

// ids is numbers at the edges of one, two, three and four bytes.
func ids() []uint32 {
	return []uint32{0, 1, 2, 255, 256, 257, 258, 1<<16 - 1, 1 << 16, 1<<16 + 1, 1<<24 - 1, 1 << 24, 1<<31 - 1, 1 << 31, 0x01020304, math.MaxUint32 - 1, math.MaxUint32}
}

// snaps is snapshots with the least and the greatest numbers, without a parent and with themselves as one.
func snaps() []api.Snap {
	return []api.Snap{
		{ID: 1},
		{ID: 1, Parent: 1, Layer: anyKey()},
		{ID: 258, Layer: anyKey()},
		{ID: math.MaxUint32, Parent: math.MaxUint32, Layer: keyOf(0xFF)},
		{ID: math.MaxUint32, Layer: anyKey()},
		{ID: 1 << 24, Parent: math.MaxUint32, Layer: api.Digest{31: 1}},
		{ID: 0x01020304, Parent: 0x05060708, Layer: api.Digest{0: 0x80}},
		{ID: 5, Parent: 7, Layer: keyOf(0)},
	}
}

// P17.1, P17.2, P17.4: every two numbers at the edges as id and parent: none of them but the id 0 is refused.
func TestIdsAndParents(t *testing.T) {
	for _, id := range ids() {
		for _, parent := range ids() {
			for _, layer := range []api.Digest{{}, anyKey(), keyOf(0xFF)} {
				x := api.Snap{ID: id, Parent: parent, Layer: layer}
				checkPutSnap(t, x)
				checkGetSnap(t, toldSnap(x))
				if _, kind := table.GetSnap(toldSnap(x)); (kind == table.Right) != (id != 0) {
					t.Fatalf("%v: %d", x, kind)
				}
			}
		}
	}
}

// P17.1, P17.2: one bit of the id is enough, whichever it is.
func TestAnIdOfOneBit(t *testing.T) {
	for b := range 32 {
		checkPutSnap(t, api.Snap{ID: 1 << b, Layer: anyKey()})
		checkPutSnap(t, api.Snap{Parent: 1 << b, Layer: anyKey()})
		checkGetSnap(t, toldSnap(api.Snap{ID: 1 << b}))
		checkGetSnap(t, toldSnap(api.Snap{Parent: 1 << b}))
	}
}

// P17.1, P17.5: each byte of each snapshot's sector another, in each way, with the sum as it was and with the sum made right.
func TestEachByteOfASnapshotIsAnother(t *testing.T) {
	for _, x := range snaps() {
		changed(toldSnap(x), func(s api.Sector, at int) {
			if g, kind := table.GetSnap(s); g != (api.Snap{}) || kind != table.Torn {
				t.Fatalf("%v with byte %d turned: %v, %d", x, at, g, kind)
			}
			s = sum(s)
			checkGetSnap(t, s)
			g, kind := table.GetSnap(s)
			switch {
			case at >= 60: // the sum was made right, so it is as it was
				if g != x || kind != table.Right {
					t.Fatalf("%v: %v, %d", x, g, kind)
				}
			case at < 4 || at >= 44:
				if kind != table.Torn {
					t.Fatalf("%v with byte %d another and its sum: %v, %d", x, at, g, kind)
				}
			case at >= 8: // any parent and any layer may be
				if g == x || g.ID != x.ID || kind != table.Right {
					t.Fatalf("%v with byte %d another and its sum: %v, %d", x, at, g, kind)
				}
			}
		})
	}
}

// P17.1, P17.4: sectors that are nearly a snapshot's.
func TestSnapshotsSectorsByChance(t *testing.T) {
	r := rand.New(rand.NewSource(7))
	rights := 0
	for range 200000 {
		x := api.Snap{ID: ids()[r.Intn(len(ids()))], Parent: r.Uint32() >> r.Intn(32)}
		r.Read(x.Layer[:])
		s := toldSnap(x)
		if r.Intn(2) == 0 {
			s[r.Intn(64)] ^= byte(r.Intn(256))
		}
		if r.Intn(4) != 0 {
			s = sum(s)
		}
		checkGetSnap(t, s)
		if _, kind := table.GetSnap(s); kind == table.Right {
			rights++
		}
	}
	if rights < 1000 {
		t.Errorf("only %d were right: the others show little", rights)
	}
}

// P17.2, P17.4: snapshots by chance, there and back.
func TestSnapshotsByChance(t *testing.T) {
	r := rand.New(rand.NewSource(8))
	for range 100000 {
		x := api.Snap{ID: r.Uint32() >> r.Intn(32), Parent: r.Uint32() >> r.Intn(32)}
		r.Read(x.Layer[:])
		checkPutSnap(t, x)
	}
}

// P17.5
func TestNoBurstLeavesASnapshot(t *testing.T) {
	r := rand.New(rand.NewSource(9))
	for _, x := range snaps() {
		s, e := table.PutSnap(x)
		if e != api.OK {
			t.Fatalf("%v: %d", x, e)
		}
		bursts(s, r, func(b api.Sector) {
			if g, kind := table.GetSnap(b); g != (api.Snap{}) || kind != table.Torn {
				t.Fatalf("%v: % x: %v, %d", x, b, g, kind)
			}
		})
	}
}
