package lay_test

import (
	"encoding/binary"
	"hash/crc32"

	"assay/api"
	"assay/mend"
)

// model is the head of a store, put together once more byte by byte, by DOC.md's words alone.
func model(m *mend.Mended) []api.Sector {
	n := m.Image().N()
	var l []api.Sector
	for range 2 {
		l = append(l, modelSuper(n))
	}
	l = append(l, api.Sector{})
	l = append(l, m.Image().Sectors()[3:11]...)
	l = append(l, modelBitmap(m, n)...)
	for slot := range n / 8 {
		l = append(l, modelEntry(m.Entry(slot)))
	}
	for slot := range n / 16 {
		l = append(l, modelTag(m.Tag(slot)))
	}
	for slot := range n / 16 {
		l = append(l, modelSnap(m.Snap(slot)))
	}
	for first := 0; first < n/8; first += 15 {
		l = append(l, modelCounts(m, first, n/8))
	}
	return l
}

// summed is a sector with the sum of its first 60 bytes behind them.
func summed(s api.Sector) api.Sector {
	binary.LittleEndian.PutUint32(s[60:], crc32.ChecksumIEEE(s[:60]))
	return s
}

func modelSuper(n int) api.Sector {
	s := api.Sector{0x41, 0x53, 0x53, 0x41, 0x59, 1}
	s[8], s[9] = byte(n), byte(n/256)
	return summed(s)
}

// modelData is how many sectors the head has.
func modelData(n int) int { return 11 + (n+479)/480 + n/8 + n/16 + n/16 + (n/8+14)/15 }

func modelBitmap(m *mend.Mended, n int) []api.Sector {
	l := make([]api.Sector, (n+479)/480)
	set := func(i int) { l[i/480][i%480/8] |= 1 << (i % 8) }
	for i := range modelData(n) {
		set(i)
	}
	for slot := range n / 8 {
		e, _ := m.Entry(slot)
		for i := 0; 64*i < e.Length; i++ {
			set(e.Start + i)
		}
	}
	for k := range l {
		l[k] = summed(l[k])
	}
	return l
}

func modelEntry(e api.Entry, ok bool) api.Sector {
	if !ok {
		return api.Sector{}
	}
	s := api.Sector{0x42, byte(e.State), byte(e.Start), byte(e.Start / 256), byte(e.Length), byte(e.Length / 256)}
	copy(s[8:], e.Key[:])
	return summed(s)
}

func modelTag(tag api.Tag, ok bool) api.Sector {
	if !ok {
		return api.Sector{}
	}
	s := api.Sector{0x54, byte(len(tag.Name))}
	copy(s[2:], tag.Name)
	copy(s[26:], tag.Key[:])
	return summed(s)
}

func modelSnap(snap api.Snap, ok bool) api.Sector {
	if !ok {
		return api.Sector{}
	}
	s := api.Sector{0x53}
	binary.LittleEndian.PutUint32(s[4:], snap.ID)
	binary.LittleEndian.PutUint32(s[8:], snap.Parent)
	copy(s[12:], snap.Layer[:])
	return summed(s)
}

// modelCounts is the counts of up to fifteen slots.
func modelCounts(m *mend.Mended, first, slots int) api.Sector {
	var s api.Sector
	for slot := first; slot < first+15 && slot < slots; slot++ {
		binary.LittleEndian.PutUint32(s[4*(slot-first):], m.Count(slot))
	}
	return summed(s)
}
