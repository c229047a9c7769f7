package drive_test

import (
	"math"
	"slices"
	"testing"

	"assay/api"
	"assay/drive"
)

// P28.1 to P28.4: the chapter's first example: zeros.
func TestZeros(t *testing.T) {
	l := make([]api.Sector, 64)
	want := api.Report{Status: api.Repaired, Findings: []api.Finding{f(api.FSuper, 0), f(api.FSuper, 1), f(api.FBitmap, 0), f(api.FCounts, 0)}}
	if got := audit(t, l, 1); !same(got, want) {
		t.Errorf("Audit: %v", got)
	}
	writes := left(t, l)
	if at := sectorsAt(writes); !slices.Equal(at, []int{0, 1, 11, 28}) {
		t.Errorf("Left: %v", at)
	}
	is(t, writes[0].Data, superOf(64))
	is(t, writes[1].Data, superOf(64))
	is(t, writes[2].Data, summed(api.Sector{0xFF, 0xFF, 0xFF, 0x1F}))
	is(t, writes[3].Data, summed(api.Sector{}))
	d := deviceOf(t, l)
	if got := run(t, d, 1); !same(got, want) {
		t.Errorf("Run: %v", got)
	}
	is(t, acted(d), [3]int{64, 10, 4})
	if got := run(t, d, 1); !same(got, api.Report{Status: api.Clean}) {
		t.Errorf("Run again: %v", got)
	}
	is(t, acted(d), [3]int{128, 10, 4})
	check(t, l)
}

// P28.3: the chapter's second example: stopped ahead of its act 8.
func TestStoppedAheadOfItsAct8(t *testing.T) {
	d := deviceOf(t, make([]api.Sector, 64))
	d.Stop(7)
	got, e := drive.Run(d, 1)
	if e != api.ErrDown || !nothing(got) || len(d.Pending()) != 0 {
		t.Errorf("%v, %d, pending %v", got, e, d.Pending())
	}
	d.Restart()
	want := api.Report{Status: api.Repaired, Findings: []api.Finding{f(api.FJournal, 0)}}
	if got := audit(t, d.Durable(), 1); !same(got, want) {
		t.Errorf("Audit: %v", got)
	}
	is(t, len(left(t, d.Durable())), 0)
	before := acted(d)
	if got := run(t, d, 1); !same(got, want) {
		t.Errorf("Run: %v", got)
	}
	is(t, acted(d), [3]int{before[0] + 64 + 9, before[1] + 5, before[2] + 2})
	checkDone(t, d)
}

// P28.1, P28.2: lists of sectors that are no disk.
func TestNoDisk(t *testing.T) {
	for _, n := range []int{0, 1, 2, 11, 63, 1025, 1026, 2048, 5000} {
		l := make([]api.Sector, n)
		for _, workers := range []int{-1, 0, 1, 8, 9} {
			if r, e := drive.Audit(l, workers); e != api.ErrSize || !nothing(r) {
				t.Errorf("%d sectors: Audit: %v, %d", n, r, e)
			}
		}
		if w, e := drive.Left(l); e != api.ErrSize || len(w) > 0 {
			t.Errorf("%d sectors: Left: %v, %d", n, w, e)
		}
	}
	if r, e := drive.Audit(nil, 1); e != api.ErrSize || !nothing(r) {
		t.Errorf("nil: Audit: %v, %d", r, e)
	}
	if w, e := drive.Left(nil); e != api.ErrSize || len(w) > 0 {
		t.Errorf("nil: Left: %v, %d", w, e)
	}
}

// P28.3: a nil device, whatever the number of workers is.
func TestNoDevice(t *testing.T) {
	for _, workers := range []int{math.MinInt, -1, 0, 1, 8, 9, math.MaxInt} {
		if r, e := drive.Run(nil, workers); e != api.ErrArg || !nothing(r) {
			t.Errorf("%d workers: %v, %d", workers, r, e)
		}
	}
}

// P28.3: a device that is down already: nothing is done, be it with writes pending or not.
func TestDownAlready(t *testing.T) {
	for _, d := range []*disk{zeros(t, 64), family(t, 64), wreck(t), zeros(t, 1024)} {
		for _, pending := range []int{0, 1, 3} {
			dev := deviceOf(t, d.l)
			for at := range pending {
				dev.Write(at+9, api.Sector{byte(at)})
			}
			dev.Stop(0)
			is(t, dev.Flush(), api.ErrDown)
			acts, durable, sectors := acted(dev), dev.Durable(), dev.Sectors()
			for _, workers := range []int{-1, 1, 8, 9} {
				if r, e := drive.Run(dev, workers); e != api.ErrDown || !nothing(r) {
					t.Errorf("%v, %d", r, e)
				}
			}
			is(t, acted(dev), acts)
			is(t, dev.Down(), true)
			is(t, len(dev.Pending()), pending)
			if !slices.Equal(dev.Durable(), durable) || !slices.Equal(dev.Sectors(), sectors) {
				t.Error("what is there has changed")
			}
			dev.Restart()
			run(t, dev, 1)
			checkDone(t, dev)
		}
	}
}

// P28.1 to P28.3: the least disk, the greatest one, and all kinds of sizes between, of each the simplest disks.
func TestSizes(t *testing.T) {
	for _, n := range sizes() {
		d := zeros(t, n)
		var want []api.Finding
		for _, kind := range []struct{ kind, many int }{{api.FSuper, 2}, {api.FBitmap, d.dir - d.bitmap}, {api.FCounts, d.data - d.count}} {
			for at := range kind.many {
				want = append(want, f(kind.kind, at))
			}
		}
		d.finds(want...)
		emptyStore(t, n).finds()
		family(t, n).finds()
	}
}

// P28.4: sectors that are written and don't last yet are judged as they are read.
func TestUnflushed(t *testing.T) {
	first, other := family(t, 64), zeros(t, 64)
	other.commit(api.Write{At: 12, Data: api.Sector{9}}, api.Write{At: 40, Data: api.Sector{8}})
	for _, at := range [][]int{{0}, {2}, {2, 3, 4}, {0, 2, 3, 11, 12, 28}, {12, 20, 24, 28}, {40, 41}} {
		d := deviceOf(t, first.l)
		for _, at := range at {
			d.Write(at, other.l[at])
		}
		sectors := d.Sectors()
		r := read(sectors)
		if got := run(t, d, 1); !same(got, r.report()) || !same(got, audit(t, sectors, 1)) {
			t.Errorf("%v: %v, want %v", at, got, r.report())
		}
		if at := firstOther(d.Sectors(), r.ends(sectors)); at >= 0 {
			t.Errorf("another sector at %d", at)
		}
		checkDone(t, d)
	}
}
