package drive_test

import (
	"slices"
	"testing"

	"assay/api"
	"assay/drive"
)

// DOC.md's ten examples of the whole, each held against what the page says, and against all that check asks.

// Example 1: where what lies: told by where the run writes, and by how many the quarantine takes.
func TestExample1(t *testing.T) {
	for n, want := range map[int]struct{ bitmap, dir, tag, snap, count, data, room int }{
		64:   {11, 12, 20, 24, 28, 29, 2},
		1024: {11, 14, 142, 206, 270, 279, 32},
	} {
		l := make([]api.Sector, n)
		for at := want.dir; at < want.count; at++ {
			l[at] = api.Sector{1}
		}
		at := sectorsAt(left(t, l))
		is(t, len(at), want.data-9)
		is(t, slices.Min(at[2:]), want.bitmap)
		is(t, at[len(at)-1], want.data-1)
		var all []api.Finding
		for _, part := range []struct{ kind, many int }{
			{api.FSuper, 2}, {api.FBitmap, want.dir - want.bitmap}, {api.FSlot, want.tag - want.dir},
			{api.FTag, want.snap - want.tag}, {api.FSnap, want.count - want.snap}, {api.FCounts, want.data - want.count},
		} {
			for i := range part.many {
				all = append(all, f(part.kind, i))
			}
		}
		if got := check(t, l).Findings; !slices.Equal(got, all) {
			t.Errorf("%d sectors: %v, want %v", n, got, all)
		}
		d := zeros(t, n)
		for slot := range d.slots {
			d.corrupt(slot, "x")
		}
		is(t, len(check(t, d.l).Dropped), d.slots-want.room)
	}
}

// Example 2: zeros.
func TestExample2(t *testing.T) {
	d := zeros(t, 64)
	r := d.finds(f(api.FSuper, 0), f(api.FSuper, 1), f(api.FBitmap, 0), f(api.FCounts, 0))
	is(t, r.Status, api.Repaired)
	is(t, len(d.repaired()), 64)
	dev := deviceOf(t, d.l)
	run(t, dev, 1)
	is(t, acted(dev), [3]int{64, 10, 4})
	is(t, run(t, dev, 1).Status, api.Clean)
	is(t, acted(dev), [3]int{128, 10, 4})
}

// Example 3: a live entry without its bit; with a wrong key.
func TestExample3(t *testing.T) {
	d := emptyStore(t, 64)
	d.blob(0, "abc")
	d.finds(f(api.FBit, 29))
	d = emptyStore(t, 64)
	d.put(0, api.Live, "abc", nowhere(1))
	d.finds(f(api.FBit, 29), f(api.FCorrupt, 0))
	end := d.repaired()
	is(t, end[12], entryOf(api.Entry{State: api.Quarantined, Start: 29, Length: 3, Key: nowhere(1)}))
	is(t, end[11], summed(api.Sector{0xFF, 0xFF, 0xFF, 0x3F}))
}

// Example 4: more wrong keys than the quarantine has room for.
func TestExample4(t *testing.T) {
	d := emptyStore(t, 64)
	for _, slot := range []int{1, 2, 5} {
		d.corrupt(slot, "x")
	}
	d.settle()
	r := d.finds(f(api.FCorrupt, 1), f(api.FCorrupt, 2), f(api.FCorrupt, 5), f(api.FCrowd, 5))
	if !slices.Equal(r.Dropped, []int{5}) {
		t.Errorf("dropped: %v", r.Dropped)
	}
	end := d.repaired()
	is(t, end[13][1], api.Quarantined)
	is(t, end[14][1], api.Quarantined)
	is(t, end[17], api.Sector{})
	e, _ := d.places.entry(d.l[17])
	d.entry(5, api.Quarantined, e.Start, e.Length, e.Key)
	r = d.finds(f(api.FCorrupt, 1), f(api.FCorrupt, 2), f(api.FCrowd, 5))
	if !slices.Equal(r.Dropped, []int{5}) {
		t.Errorf("dropped: %v", r.Dropped)
	}
	is(t, d.repaired()[17], api.Sector{})
}

// Example 5: one key twice; two that lie over one another.
func TestExample5(t *testing.T) {
	d := emptyStore(t, 64)
	d.blob(3, "ab")
	d.lying(4, 29, 2)
	d.settle().finds(f(api.FSame, 4))
	is(t, d.repaired()[16], api.Sector{})
	d.blob(4, "ab")
	d.settle().finds(f(api.FSame, 4))
	is(t, d.repaired()[16], api.Sector{})
	is(t, d.repaired()[15], d.l[15])
	d = emptyStore(t, 64)
	d.blob(3, "ab")
	d.lying(4, 29, 1)
	d.settle().finds(f(api.FOver, 4))
	is(t, d.repaired()[16], api.Sector{})
	is(t, d.repaired()[15], d.l[15])
}

// Example 6: an index that names a lost manifest.
func TestExample6(t *testing.T) {
	d := emptyStore(t, 64)
	lost := page(t, api.Manifest, gone(1), gone(2))
	idx := d.doc(0, api.Index, api.Desc{Key: keyOf(lost), Size: len(lost)})
	d.pin(1, "v1", idx.Key)
	r := d.settle().finds(f(api.FDangling, 1))
	if !slices.Equal(r.Fetch, []api.Digest{keyOf(lost)}) {
		t.Errorf("the plan: %x", r.Fetch)
	}
	is(t, d.repaired()[21], api.Sector{})
}

// Example 7: a cycle of parents; the same with a layer lost.
func TestExample7(t *testing.T) {
	d := emptyStore(t, 64)
	key := d.blob(0, "abc").Key
	d.shot(0, 5, 7, key)
	d.shot(1, 7, 9, key)
	d.shot(3, 9, 5, key)
	d.settle().finds(f(api.FCycle, 0))
	end := d.repaired()
	is(t, end[24], snapOf(api.Snap{ID: 5, Layer: key}))
	is(t, end[25], d.l[25])
	is(t, end[27], d.l[27])
	d.shot(3, 9, 5, nowhere(1))
	d.finds(f(api.FLayer, 3), f(api.FParent, 1))
	end = d.repaired()
	is(t, end[24], d.l[24])
	is(t, end[25], snapOf(api.Snap{ID: 7, Layer: key}))
	is(t, end[27], api.Sector{})
}

// Example 8: a mark that is committed; ones that are rubbish.
func TestExample8(t *testing.T) {
	d := emptyStore(t, 64)
	tag := tagOf(api.Tag{Name: "t", Key: nowhere(1)})
	d.commit(api.Write{At: 20, Data: tag})
	d.finds(f(api.FJournal, 0), f(api.FDangling, 0))
	is(t, d.repaired()[2], api.Sector{})
	is(t, d.repaired()[20], api.Sector{})
	fine := d.blob(0, "abc")
	d.settle().commit(api.Write{At: 20, Data: tagOf(api.Tag{Name: "t", Key: fine.Key})})
	d.finds(f(api.FJournal, 0))
	is(t, d.repaired()[20], tagOf(api.Tag{Name: "t", Key: fine.Key}))
	for _, batch := range [][]api.Write{
		{{At: 5, Data: d.l[3]}},
		{{At: 21, Data: d.l[3]}, {At: 20, Data: d.l[4]}},
		{{At: 20, Data: d.l[3]}, {At: 20, Data: d.l[4]}},
		{{At: 2, Data: d.l[3]}}, {{At: 3, Data: d.l[3]}}, {{At: 10, Data: d.l[3]}}, {{At: 64, Data: d.l[3]}},
	} {
		d.l[2] = markOf(batch)
		d.finds(f(api.FJournal, 0))
		is(t, len(left(t, d.l)), 0)
		end := d.repaired()
		is(t, end[2], api.Sector{})
		is(t, end[20], api.Sector{})
		end[2] = d.l[2]
		is(t, firstOther(end, d.l), -1)
	}
}

// Example 9: stopped between the mark's flush and the targets' flush: the next run replays all of the batch, and goes on.
func TestExample9(t *testing.T) {
	d := zeros(t, 64)
	for at := 11; at < 29; at++ {
		d.l[at] = api.Sector{1}
	}
	a := aimOf(d.l)
	is(t, len(a.left), 20)
	for k := 8 + 1 + 1 + 1; k <= 8+1+1+1+8; k++ { // the batch's sectors, a flush, the mark, a flush; up to eight targets
		dev, r, e := stopped(t, d.l, k)
		is(t, e, api.ErrDown)
		is(t, nothing(r), true)
		for _, lasts := range [][]bool{nil, {true}, {false, true, true}, slices.Repeat([]bool{true}, 8)} {
			c := dev.Copy()
			c.Restart(lasts...)
			now := c.Durable()
			is(t, audit(t, now, 1).Findings[0], f(api.FJournal, 0))
			is(t, len(left(t, now)), 12)
			before := acted(c)
			if _, e := drive.Run(c, 1); e != api.OK {
				t.Fatal(e)
			}
			// Nine more reads and eleven acts for the replay; then a batch of eight and one of four.
			after := acted(c)
			is(t, [3]int{after[0] - before[0], after[1] - before[1], after[2] - before[2]}, [3]int{64 + 9, 9 + 18 + 10, 2 + 4 + 4})
			is(t, firstOther(aside(c.Durable()), a.will), -1)
		}
	}
}

// Example 10: a right digest with a size that is one too great.
func TestExample10(t *testing.T) {
	d := emptyStore(t, 64)
	abc := d.blob(0, "abc")
	one := d.doc(1, api.Manifest, api.Desc{Key: abc.Key, Size: 4})
	d.pin(0, "v1", one.Key)
	r := d.settle().finds(f(api.FDangling, 0))
	is(t, len(r.Fetch), 0)
	is(t, d.repaired()[28], summed(api.Sector{}))
}
