package maker_test

import (
	"encoding/binary"
	"hash/crc32"
	"slices"
	"strings"
	"testing"

	"assay/api"
	"assay/maker"
)

// P29.2: nothing at all: no digests, and nothing changes.
func TestPutNothing(t *testing.T) {
	for _, n := range few() {
		p := made(t, n)
		p.put(api.OK)
		p.one("abc")
		if keys, e := p.m.Put([][]byte{}...); len(keys) != 0 || e != api.OK {
			t.Errorf("%v, %d", keys, e)
		}
		p.fillSlots()
		p.put(api.OK)
		p.check()
	}
}

// P29.2: of all lengths about the edges of sectors, one behind the other and by one call.
func TestPutLengths(t *testing.T) {
	lengths := []int{0, 1, 2, 63, 64, 65, 127, 128, 129, 4032, 4033, 4095, 4096}
	for _, n := range []int{481, 720, 1024} {
		p, q := made(t, n), made(t, n)
		var l []string
		at, sectors := p.data, map[int]int{}
		for i, length := range lengths {
			b := text(i, length)
			p.put(api.OK, b)
			l = append(l, b)
			sectors[i] = at
			at += (length + 63) / 64
		}
		q.put(api.OK, l...)
		p.check()
		if !slices.Equal(p.m.Sectors(), q.m.Sectors()) {
			t.Errorf("%d sectors: one by one, and by one call", n)
		}
		for i, b := range p.blobs {
			if len(b.bytes) > 0 && b.start != sectors[i] {
				t.Errorf("%d sectors: slot %d from %d on, want %d", n, i, b.start, sectors[i])
			}
		}
	}
}

// P29.2: no bytes: a slot and no sectors, be the list nil or not.
func TestPutNoBytes(t *testing.T) {
	for _, b := range [][]byte{nil, {}, make([]byte, 0, 9), []byte("abc")[3:]} {
		m, _ := maker.New(64)
		keys, e := m.Put(b)
		if e != api.OK || !slices.Equal(keys, []api.Digest{keyOf("")}) {
			t.Errorf("%v, %d", keys, e)
		}
		p := made(t, 64)
		p.put(api.OK, "")
		if !slices.Equal(m.Sectors(), p.m.Sectors()) {
			t.Error("another disk")
		}
		if l := m.Sectors(); l[12] != entryOf(0, 0, keyOf("")) || slices.ContainsFunc(l[29:], func(s api.Sector) bool { return s != api.Sector{} }) {
			t.Errorf("%x", l)
		}
	}
}

// P29.2: bytes that are zeros alone: the bit tells that the sectors are taken.
func TestPutZeros(t *testing.T) {
	p := made(t, 64)
	p.put(api.OK, "\x00", strings.Repeat("\x00", 64), strings.Repeat("\x00", 65))
	p.put(api.OK, "x")
	p.check()
	if l := p.m.Sectors(); l[15] != entryOf(33, 1, keyOf("x")) || l[33] != (api.Sector{'x'}) {
		t.Errorf("%x", l[12:16])
	}
}

// P29.2: more than MaxBlob bytes: whatever else applies.
func TestTooLong(t *testing.T) {
	for _, n := range few() {
		p := made(t, n)
		for _, length := range []int{4097, 4098, 4160, 8192, 65536 + 3, 1 << 20} {
			p.put(api.ErrLong, text(1, length))
		}
		p.fillBoth()
		p.put(api.ErrLong, text(1, 4097))
		p.put(api.ErrLong, text(1, 1<<16))
		p.check()
	}
}

// P29.2: the same bytes are one blob, in one call and in several; the digest is told each time.
func TestTheSameBytes(t *testing.T) {
	for _, n := range few() {
		p := made(t, n)
		a, b := text(1, 70), text(2, 3)
		keys := p.put(api.OK, a, b, a, "", a, b, "", b)
		want := []api.Digest{keyOf(a), keyOf(b), keyOf(a), keyOf(""), keyOf(a), keyOf(b), keyOf(""), keyOf(b)}
		if !slices.Equal(keys, want) || len(p.blobs) != 3 {
			t.Errorf("%d sectors: %v", n, keys)
		}
		was := p.m.Sectors()
		for range 3 {
			p.put(api.OK, a)
			p.put(api.OK, b, "", a, a)
		}
		if !slices.Equal(p.m.Sectors(), was) {
			t.Errorf("%d sectors: a blob that is there has changed the disk", n)
		}
		p.put(api.OK, b, text(3, 5), b)
		p.check()
	}
}

// P29.2: blobs that are there need neither a slot nor a sector.
func TestThereAlready(t *testing.T) {
	for _, n := range sizes() {
		p := made(t, n)
		p.fillBoth()
		for _, b := range p.blobs {
			p.put(api.OK, b.bytes)
		}
		first, last := p.blobs[0].bytes, p.blobs[p.slots-1].bytes
		p.put(api.OK, last, first, last)
		p.put(api.ErrFull, last, first, "new", last)
		p.put(api.ErrLong, last, first, text(0, 4097), "new")
		p.check()
	}
}

// P29.2: the first blob to which an error applies tells it, and then none is put, not even those ahead of it.
func TestTheFirstOfSeveral(t *testing.T) {
	long, great := text(1, 4097), text(2, 4096)
	for _, full := range []bool{false, true} {
		p := made(t, 64)
		p.one("abc")
		if full {
			p.fillSlots()
			great = "new"
		}
		for range 2 {
			p.put(api.ErrLong, long, great)
			p.put(api.ErrFull, great, long)
			p.put(api.ErrLong, "abc", long, great)
			p.put(api.ErrFull, "abc", great, long)
			p.put(api.ErrLong, "abc", "abc", long)
			p.put(api.ErrFull, "abc", "abc", great)
		}
		if !full {
			p.put(api.ErrLong, "a", "b", long, great)
			p.put(api.ErrFull, "a", "b", great, long)
			p.put(api.ErrLong, "a", "", "b", long)
			p.put(api.ErrFull, "", "a", "b", great)
			p.put(api.OK, "b", "a")
		}
		p.check()
	}
}

// P29.2: what blobs ahead of it in the same call take is taken: a slot, and sectors.
func TestRoomWithinACall(t *testing.T) {
	for _, n := range few() {
		p := made(t, n)
		var l []string
		for i := range p.slots + 1 {
			l = append(l, text(i, 1))
		}
		p.put(api.ErrFull, l...)
		p.put(api.OK, l[1:]...)
		p.put(api.ErrFull, l[0])
		p.check()

		q := made(t, n)
		q.fillRoomBut(3)
		q.put(api.ErrFull, "a", "b", "c", "d")
		q.put(api.ErrFull, text(1, 128), text(2, 65))
		q.put(api.OK, text(1, 128), text(1, 128), text(2, 64), text(1, 128))
		q.put(api.ErrFull, "d")
		q.check()
	}
}

// fillRoomBut fills the data sectors but for so many.
func (p *pair) fillRoomBut(left int) {
	p.t.Helper()
	var l []string
	for i, room := 0, p.room()-left; room > 0; i++ {
		n := min(room, 64)
		l = append(l, text(50+i, 64*n))
		room -= n
	}
	p.put(api.OK, l...)
}

// P29.2: no slot is free, though sectors are.
func TestFullBySlots(t *testing.T) {
	for _, n := range sizes() {
		p := made(t, n)
		p.fillSlots()
		p.put(api.ErrFull, "")
		p.put(api.ErrFull, "new")
		p.put(api.ErrFull, text(1, 64))
		p.put(api.OK, text(p.slots-1, 1))
		p.check()
	}
}

// P29.2: no data sector is free, though slots are: for bytes there is no room, for no bytes there is.
func TestFullByRoom(t *testing.T) {
	for _, n := range sizes() {
		p := made(t, n)
		p.fillRoom()
		p.put(api.ErrFull, "x")
		p.put(api.ErrFull, text(1, 4096))
		p.put(api.ErrFull, "", "x")
		p.put(api.OK, "")
		p.put(api.ErrFull, "x")
		p.check()
		if l := p.m.Sectors(); l[n-1] == (api.Sector{}) {
			t.Errorf("%d sectors: the last one is zeros", n)
		}
	}
}

// P29.2: the row that is left is too short by one sector; what fits it is put behind the refusal, to the last sector.
func TestRowsThatAreTooShort(t *testing.T) {
	for _, n := range sizes() {
		for _, left := range []int{1, 2, 3, 5, 31} {
			p := made(t, n)
			p.fillRoomBut(left)
			p.put(api.ErrFull, text(1, 64*left+1))
			p.put(api.ErrFull, text(1, 64*left+64))
			if left > 1 {
				p.put(api.OK, text(1, 64*(left-1)))
				p.put(api.ErrFull, text(2, 65))
			}
			p.put(api.OK, text(2, 1))
			p.put(api.ErrFull, text(3, 1))
			p.check()
		}
	}
}

// P29.2: filled to the last slot and to the last sector; then there is room for nothing that isn't there.
func TestFilled(t *testing.T) {
	for _, n := range sizes() {
		p := made(t, n)
		p.fillBoth()
		if len(p.blobs) != p.slots || slices.Contains(p.taken(), false) {
			t.Fatalf("%d sectors: %d blobs", n, len(p.blobs))
		}
		p.put(api.ErrFull, "new")
		p.put(api.ErrFull, text(500, 64))
		p.put(api.OK, "")
		p.check()
	}
}

// P29.2: filled one by one, with one byte in the last sector.
func TestFilledOneByOne(t *testing.T) {
	for _, n := range few() {
		p := made(t, n)
		for i := 0; len(p.blobs) < p.slots; i++ {
			p.one(text(i, []int{1, 64, 65, 129, 0}[i%5]))
		}
		p.put(api.ErrFull, "new")
		p.check()

		q := made(t, n)
		q.fillRoomBut(1)
		q.one("x")
		q.put(api.ErrFull, "y")
		q.check()
	}
}

// P29.2: the answer's digests are in the order of what was handed in, be it there already or not.
func TestTheOrderOfDigests(t *testing.T) {
	p := made(t, 1024)
	p.put(api.OK, "m", "c", "x")
	l := []string{"z", "c", "a", "", "x", "b", "z", "m", "a", "y"}
	keys := p.put(api.OK, l...)
	for i, b := range l {
		if keys[i] != keyOf(b) {
			t.Errorf("%d: %x", i, keys[i])
		}
	}
	for i, b := range []string{"m", "c", "x", "z", "a", "", "b", "y"} {
		if p.blobs[i].bytes != b {
			t.Errorf("slot %d: %q", i, p.blobs[i].bytes)
		}
	}
	p.check()
}

// P29.6: bytes that look like the head's sectors, like a mark with its batch, like whole disks.
func TestBytesOfDisks(t *testing.T) {
	p := made(t, 1024)
	p.pin(api.OK, "v1", p.one("abc").Key)
	p.shoot(api.OK, 1, 0, keyOf("abc"))
	l := p.m.Sectors()
	for _, at := range []int{0, p.bitmap, p.dir, p.tag, p.snap, p.count} {
		p.one(string(l[at][:]))
	}
	small := made(t, 64)
	small.put(api.OK, "abc", "d")
	var whole []byte
	for _, s := range small.m.Sectors() {
		whole = append(whole, s[:]...)
	}
	p.one(string(whole))
	p.one(string(summedMark()))
	p.check()
}

// summedMark is a mark with one target and the sum of a journal of zeros.
func summedMark() []byte {
	s := api.Sector{0x4A, 0x4D, 1, 0, 20}
	binary.LittleEndian.PutUint32(s[20:], crc32.ChecksumIEEE(make([]byte, 64)))
	s = summed(s)
	return s[:]
}
