package maker_test

import (
	"encoding/binary"
	"hash/crc32"

	"assay/api"
)

// What DOC.md says of a disk's bytes, once more: none of the program's own packages is asked.

// places is where what lies, and how much of it there is.
type places struct {
	n                                   int
	bitmap, dir, tag, snap, count, data int
	slots, tags, snaps                  int
}

func placesOf(n int) places {
	p := places{n: n, bitmap: 11, slots: n / 8, tags: n / 16, snaps: n / 16}
	p.dir = p.bitmap + (n+479)/480
	p.tag = p.dir + p.slots
	p.snap = p.tag + p.tags
	p.count = p.snap + p.snaps
	p.data = p.count + (p.slots+14)/15
	return p
}

// room is how many data sectors there are.
func (p places) room() int { return p.n - p.data }

// summed is a sector with the sum of its first 60 bytes behind them.
func summed(s api.Sector) api.Sector {
	binary.LittleEndian.PutUint32(s[60:], crc32.ChecksumIEEE(s[:60]))
	return s
}

func superOf(n int) api.Sector {
	s := api.Sector{0x41, 0x53, 0x53, 0x41, 0x59, 1}
	binary.LittleEndian.PutUint32(s[8:], uint32(n))
	return summed(s)
}

// entryOf is a live entry's sector.
func entryOf(start, length int, key api.Digest) api.Sector {
	s := api.Sector{0x42, 1}
	binary.LittleEndian.PutUint16(s[2:], uint16(start))
	binary.LittleEndian.PutUint16(s[4:], uint16(length))
	copy(s[8:], key[:])
	return summed(s)
}

func tagOf(tag api.Tag) api.Sector {
	s := api.Sector{0x54, byte(len(tag.Name))}
	copy(s[2:26], tag.Name)
	copy(s[26:], tag.Key[:])
	return summed(s)
}

func snapOf(snap api.Snap) api.Sector {
	s := api.Sector{0x53}
	binary.LittleEndian.PutUint32(s[4:], snap.ID)
	binary.LittleEndian.PutUint32(s[8:], snap.Parent)
	copy(s[12:], snap.Layer[:])
	return summed(s)
}

// countsOf is the sectors of all counts.
func countsOf(counts []uint32) []api.Sector {
	l := make([]api.Sector, (len(counts)+14)/15)
	for i, v := range counts {
		binary.LittleEndian.PutUint32(l[i/15][i%15*4:], v)
	}
	for i := range l {
		l[i] = summed(l[i])
	}
	return l
}

// bitmapOf is the sectors of all bits.
func bitmapOf(taken []bool) []api.Sector {
	l := make([]api.Sector, (len(taken)+479)/480)
	for i, is := range taken {
		if is {
			l[i/480][i%480/8] |= 1 << (i % 8)
		}
	}
	for i := range l {
		l[i] = summed(l[i])
	}
	return l
}
