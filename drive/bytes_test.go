package drive_test

import (
	"encoding/binary"
	"hash/crc32"
	"regexp"

	"assay/api"
)

// What DOC.md says of a disk's bytes, once more: none of the program's own packages is asked.

// places is where what lies, and how much of it there is.
type places struct {
	n                                   int
	bitmap, dir, tag, snap, count, data int
	slots, tags, snaps, room            int
}

func placesOf(n int) places {
	p := places{n: n, bitmap: 11, slots: n / 8, tags: n / 16, snaps: n / 16, room: n / 8 / 4}
	p.dir = p.bitmap + (n+479)/480
	p.tag = p.dir + p.slots
	p.snap = p.tag + p.tags
	p.count = p.snap + p.snaps
	p.data = p.count + (p.slots+14)/15
	return p
}

// summed is a sector with the sum of its first 60 bytes behind them.
func summed(s api.Sector) api.Sector {
	binary.LittleEndian.PutUint32(s[60:], crc32.ChecksumIEEE(s[:60]))
	return s
}

func superOf(n int) api.Sector {
	s := api.Sector{0x41, 0x53, 0x53, 0x41, 0x59, 1}
	binary.LittleEndian.PutUint32(s[8:], uint32(n))
	return summed(s)
}

func entryOf(e api.Entry) api.Sector {
	s := api.Sector{0x42, byte(e.State)}
	binary.LittleEndian.PutUint16(s[2:], uint16(e.Start))
	binary.LittleEndian.PutUint16(s[4:], uint16(e.Length))
	copy(s[8:], e.Key[:])
	return summed(s)
}

func tagOf(tag api.Tag) api.Sector {
	s := api.Sector{0x54, byte(len(tag.Name))}
	copy(s[2:26], tag.Name)
	copy(s[26:], tag.Key[:])
	return summed(s)
}

func snapOf(snap api.Snap) api.Sector {
	s := api.Sector{0x53}
	binary.LittleEndian.PutUint32(s[4:], snap.ID)
	binary.LittleEndian.PutUint32(s[8:], snap.Parent)
	copy(s[12:], snap.Layer[:])
	return summed(s)
}

// markOf is the mark of a batch, be it one that may be or not.
func markOf(batch []api.Write) api.Sector {
	s := api.Sector{0x4A, 0x4D, byte(len(batch))}
	sum := uint32(0)
	for i, w := range batch {
		binary.LittleEndian.PutUint16(s[4+2*i:], uint16(w.At))
		sum = crc32.Update(sum, crc32.IEEETable, w.Data[:])
	}
	binary.LittleEndian.PutUint32(s[20:], sum)
	return summed(s)
}

// countsOf is the sectors of all counts.
func countsOf(counts []uint32) []api.Sector {
	l := make([]api.Sector, (len(counts)+14)/15)
	for i, v := range counts {
		binary.LittleEndian.PutUint32(l[i/15][i%15*4:], v)
	}
	for i := range l {
		l[i] = summed(l[i])
	}
	return l
}

// bitmapOf is the sectors of all bits.
func bitmapOf(taken []bool) []api.Sector {
	l := make([]api.Sector, (len(taken)+479)/480)
	for i, is := range taken {
		if is {
			l[i/480][i%480/8] |= 1 << (i % 8)
		}
	}
	for i := range l {
		l[i] = summed(l[i])
	}
	return l
}

// entry is the entry of a sector, if it is right.
func (p places) entry(s api.Sector) (api.Entry, bool) {
	e := api.Entry{
		State:  int(s[1]),
		Start:  int(binary.LittleEndian.Uint16(s[2:])),
		Length: int(binary.LittleEndian.Uint16(s[4:])),
		Key:    api.Digest(s[8:40]),
	}
	sectors := (e.Length + 63) / 64
	lies := e.Start >= p.data && e.Start+sectors <= p.n
	if sectors == 0 {
		lies = e.Start == 0
	}
	return e, lies && (e.State == 1 || e.State == 2) && e.Length <= 4096 && s == entryOf(e)
}

// nameForm is the form of a name of any length.
var nameForm = regexp.MustCompile(`\A[A-Za-z0-9_][A-Za-z0-9_.-]*\z`)

// tagIn is the tag of a sector, if it is right.
func tagIn(s api.Sector) (api.Tag, bool) {
	tag := api.Tag{Name: string(s[2 : 2+min(s[1], 24)]), Key: api.Digest(s[26:58])}
	named := nameForm.MatchString(tag.Name)
	return tag, named && s == tagOf(tag)
}

// snapIn is the snapshot of a sector, if it is right.
func snapIn(s api.Sector) (api.Snap, bool) {
	snap := api.Snap{ID: binary.LittleEndian.Uint32(s[4:]), Parent: binary.LittleEndian.Uint32(s[8:]), Layer: api.Digest(s[12:44])}
	return snap, snap.ID != 0 && s == snapOf(snap)
}

// counts is the counts of their sector i, if it isn't torn: of the slots that there are.
func (p places) counts(s api.Sector, i int) ([]uint32, bool) {
	l := make([]uint32, min(15, p.slots-15*i))
	for k := range l {
		l[k] = binary.LittleEndian.Uint32(s[4*k:])
	}
	return l, s == countsOf(l)[0]
}

// bits is the bits of the bitmap's sector i, if it isn't torn: of the sectors that there are.
func (p places) bits(s api.Sector, i int) ([]bool, bool) {
	l := make([]bool, min(480, p.n-480*i))
	for k := range l {
		l[k] = s[k/8]>>(k%8)&1 == 1
	}
	return l, s == bitmapOf(l)[0]
}

// The states of a mark.
const (
	empty     = 1
	committed = 2
	rubbish   = 3
)

// markIn is what the mark of a disk is, and of a committed one the batch.
func markIn(l []api.Sector) (int, []api.Write) {
	s := l[2]
	if s == (api.Sector{}) {
		return empty, nil
	}
	if s[2] < 1 || s[2] > 8 {
		return rubbish, nil
	}
	batch := make([]api.Write, s[2])
	last := -1
	for i := range batch {
		at := int(binary.LittleEndian.Uint16(s[4+2*i:]))
		if at <= last || at >= len(l) || at >= 2 && at <= 10 {
			return rubbish, nil
		}
		batch[i], last = api.Write{At: at, Data: l[3+i]}, at
	}
	if s != markOf(batch) {
		return rubbish, nil
	}
	return committed, batch
}
