package maker_test

import (
	"slices"
	"testing"

	"assay/api"
)

// counted holds the first in-degrees, and all else of the disk.
func (p *pair) counted(want ...uint32) {
	p.t.Helper()
	if got := p.counts()[:len(want)]; !slices.Equal(got, want) {
		p.t.Errorf("%d sectors: %v, want %v", p.n, got, want)
	}
	l := p.m.Sectors()
	for i, v := range want {
		if s := l[p.count+i/15]; s[i%15*4] != byte(v) || s[i%15*4+1] != byte(v>>8) {
			p.t.Errorf("%d sectors: the count of slot %d: %x, want %d", p.n, i, s, v)
		}
	}
	p.check()
}

// P29.5: documents that name what was put before and what is put later, the same one more than once.
func TestCounts(t *testing.T) {
	for _, n := range few() {
		p := made(t, n)
		abc, later := p.one("abc"), api.Desc{Key: keyOf("later"), Size: 5}
		one := p.doc(api.Manifest, abc, later, abc)
		p.counted(2, 0)
		p.doc(api.Index, one, one, later)
		p.counted(2, 2, 0)
		p.one("later")
		p.counted(2, 2, 0, 2)
		p.doc(api.Index, api.Desc{Key: later.Key, Size: 4}, api.Desc{Key: abc.Key, Size: 3})
		p.counted(3, 2, 0, 2, 0)
		p.pin(api.OK, "v1", one.Key)
		p.shoot(api.OK, 1, 0, one.Key)
		p.counted(3, 2, 0, 2, 0)
	}
}

// P29.5: what a refused call would have named counts nowhere.
func TestCountsOfWhatIsRefused(t *testing.T) {
	p := made(t, 64)
	abc := p.one("abc")
	p.put(api.ErrLong, page(t, api.Index, abc), text(1, 4097))
	p.put(api.ErrFull, page(t, api.Index, abc), text(1, 4096))
	p.counted(0, 0)
	p.put(api.OK, page(t, api.Index, abc))
	p.counted(1, 0)
}

// P29.5: as many as there can be: a blob that all others name, as often as may be, in every sector of counts.
func TestManyCounts(t *testing.T) {
	p := made(t, 1024)
	a, b := p.one("a"), p.one("b")
	var named []api.Desc
	for range api.MaxDescs {
		named = append(named, a)
	}
	one := p.doc(api.Index, named[:3]...)
	want := uint32(3)
	for i := range 6 {
		named[i] = b
		p.doc(api.Index, named...)
		want += uint32(api.MaxDescs - 1 - i)
	}
	p.counted(want, 21, 0)
	p.doc(api.Index, one, one)
	for len(p.blobs) < p.slots-2 {
		p.one(text(len(p.blobs), 9))
	}
	last := p.one("last")
	p.doc(api.Manifest, last, a, last)
	p.counted(want+1, 21, 2)
	if got := p.counts()[p.slots-2]; got != 2 {
		t.Errorf("the last one but one: %d", got)
	}
}
