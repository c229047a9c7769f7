package drive_test

import (
	"slices"
	"testing"

	"assay/api"
	"assay/device"
	"assay/drive"
)

// acted is how many reads, writes and flushes a device has done.
func acted(d *device.Device) [3]int {
	reads, writes, flushes := d.Acts()
	return [3]int{reads, writes, flushes}
}

// stopped is a device of these sectors, behind a run that had k writes and flushes, and what that run answered.
func stopped(t *testing.T, l []api.Sector, k int) (*device.Device, api.Report, api.Errno) {
	t.Helper()
	d := deviceOf(t, l)
	d.Stop(k)
	r, e := drive.Run(d, 1+k%8)
	return d, r, e
}

// acts is the writes and flushes of a whole run over a disk, as they are seen by runs that stop behind the first one, behind the second one, and so on.
func acts(t *testing.T, l []api.Sector) []act {
	t.Helper()
	var seen []act
	for k := 1; ; k++ {
		d, _, e := stopped(t, l, k)
		_, writes, flushes := d.Acts()
		if writes+flushes < k {
			is(t, e, api.OK)
			return seen
		}
		is(t, writes+flushes, k)
		if pending := d.Pending(); len(pending) > 0 {
			seen = append(seen, act{write: pending[len(pending)-1]})
		} else {
			seen = append(seen, act{flush: true})
		}
	}
}

// checkTrace holds the acts of a run, one by one.
func checkTrace(t *testing.T, l []api.Sector) {
	t.Helper()
	got, want := acts(t, l), read(l).acts()
	for i := range min(len(got), len(want)) {
		if got[i] != want[i] {
			t.Fatalf("%d sectors: act %d: %v, want %v", len(l), i+1, got[i], want[i])
		}
	}
	is(t, len(got), len(want))
}

// P28.3, P10: the acts of a run, one by one.
func TestActs(t *testing.T) {
	for what, d := range wrongs(t) {
		t.Run(what, func(t *testing.T) { checkTrace(t, d.l) })
	}
}

// P28.3, P10: all of the head is to be written: the most batches that there can be, behind each kind of mark.
func TestMostActs(t *testing.T) {
	for _, n := range []int{64, 71, 128, 500, 1024} {
		d := zeros(t, n)
		for at := range d.data {
			d.l[at] = api.Sector{byte(at), 1}
		}
		d.l[2] = api.Sector{}
		checkMost(d, n, 0)
		d.l[2] = api.Sector{1}
		checkMost(d, n+9, 2)
		var batch []api.Write
		for i := range 8 {
			batch = append(batch, api.Write{At: 11 + i, Data: api.Sector{9, byte(i)}})
		}
		d.commit(batch...)
		checkMost(d, n+9, 11)
	}
}

// checkMost holds the acts of a run that reads so many sectors and does so many acts ahead of its batches, in which all of the head is written.
func checkMost(d *disk, reads, ahead int) {
	d.t.Helper()
	check(d.t, d.l)
	dev := deviceOf(d.t, d.l)
	run(d.t, dev, 1)
	most := d.data - 9
	got := acted(dev)
	is(d.t, got[0], reads)
	is(d.t, got[1]+got[2], ahead+2*most+6*((most+7)/8))
	if d.n <= 128 {
		checkTrace(d.t, d.l)
	}
	if all := got[0] + got[1] + got[2]; all > 4*d.n+32 {
		d.t.Errorf("%d sectors: %d acts", d.n, all)
	}
}

// P28.3: of eight writes one batch is made, of nine two.
func TestBatches(t *testing.T) {
	for many := 0; many <= 20; many++ {
		d := emptyStore(t, 64)
		for at := range many {
			d.l[[]int{0, 1, 11, 12, 13, 14, 15, 16, 17, 18, 19, 20, 21, 22, 23, 24, 25, 26, 27, 28}[at]] = api.Sector{1}
		}
		dev := deviceOf(t, d.l)
		run(t, dev, 1)
		batches := (many + 7) / 8
		is(t, acted(dev), [3]int{64, 2*many + 2*batches, 4 * batches})
		checkTrace(t, d.l)
	}
}

// P28.3: ahead of its first act a run has read all, and written nothing.
func TestReadsComeFirst(t *testing.T) {
	for what, d := range wrongs(t) {
		dev, r, e := stopped(t, d.l, 0)
		reading := read(d.l)
		if len(reading.acts()) == 0 {
			is(t, e, api.OK)
			is(t, r.Status, api.Clean)
			is(t, dev.Down(), false)
			continue
		}
		if e != api.ErrDown || !nothing(r) || !dev.Down() || len(dev.Pending()) > 0 || !slices.Equal(dev.Durable(), d.l) {
			t.Errorf("%s: %v, %d", what, r, e)
		}
		reads := d.n
		if reading.mark != empty {
			reads += 9
		}
		is(t, acted(dev), [3]int{reads, 0, 0})
	}
}

// P28.3: Stop of a number just as great as the run's acts ends nothing: the run is whole.
func TestStopBehindTheLastAct(t *testing.T) {
	for what, d := range wrongs(t) {
		reading := read(d.l)
		k := len(reading.acts())
		for _, more := range []int{0, 1, 50} {
			dev, r, e := stopped(t, d.l, k+more)
			if e != api.OK || !same(r, reading.report()) || dev.Down() || firstOther(dev.Durable(), reading.ends(d.l)) >= 0 {
				t.Errorf("%s: %v, %d, down %v", what, r, e, dev.Down())
			}
			// The stop is set still: a further run that has nothing to do doesn't come to it.
			checkDone(t, dev)
			is(t, dev.Down(), false)
		}
		if k == 0 {
			continue
		}
		if dev, r, e := stopped(t, d.l, k-1); e != api.ErrDown || !nothing(r) || !dev.Down() {
			t.Errorf("%s: one act less: %v, %d", what, r, e)
		}
	}
}
