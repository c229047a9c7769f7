package drive_test

import (
	"fmt"
	"math/rand"
	"slices"
	"testing"

	"assay/api"
	"assay/device"
	"assay/drive"
)

// aim is where every run over a disk must lead to, whatever stops it.
type aim struct {
	first *reading
	will  []api.Sector // the journal's sectors aside
	left  map[api.Write]bool
}

// aimOf is the aim of runs over a disk.
func aimOf(l []api.Sector) *aim {
	a := &aim{first: read(l), left: map[api.Write]bool{}}
	a.will = aside(a.first.will())
	for _, w := range a.first.left() {
		a.left[w] = true
	}
	return a
}

// between holds what is told of a disk behind a stop: P11, and what never changes.
func (a *aim) between(t *testing.T, l []api.Sector) {
	t.Helper()
	for _, w := range left(t, l) {
		if !a.left[w] {
			t.Fatalf("%d sectors: P11: a write to %d is left that was not before", len(l), w.At)
		}
	}
	now := read(l)
	if at := firstOther(aside(now.will()), a.will); at >= 0 {
		t.Fatalf("%d sectors: P6: what will be at %d is another behind the stop", len(l), at)
	}
	if !slices.Equal(now.d0[now.data:], a.first.d0[now.data:]) {
		t.Fatalf("%d sectors: P6: a data sector is another behind the stop", len(l))
	}
	if got := audit(t, l, 1); !same(got, now.report()) {
		t.Fatalf("%d sectors: P28.1: behind the stop: %v, want %v", len(l), got, now.report())
	}
}

// whole holds where a whole run over the device, which has restarted, ends.
func (a *aim) whole(t *testing.T, d *device.Device) {
	t.Helper()
	told := audit(t, d.Sectors(), 2)
	got := run(t, d, 1)
	if !same(got, told) || got.Status != api.Clean && got.Status != api.Repaired {
		t.Fatalf("%d sectors: P28.4: %v, want %v", d.N(), got, told)
	}
	if at := firstOther(aside(d.Durable()), a.will); at >= 0 {
		t.Fatalf("%d sectors: P6: it ends with another sector at %d", d.N(), at)
	}
	if len(d.Pending()) > 0 || d.Down() {
		t.Fatalf("%d sectors: pending %v, down %v", d.N(), sectorsAt(d.Pending()), d.Down())
	}
}

// stops has a device run with a stop behind k acts; false, if the run was whole.
func stops(t *testing.T, d *device.Device, k int) bool {
	t.Helper()
	durable := d.Durable()
	before := acted(d)
	d.Stop(k)
	r, e := drive.Run(d, k%10)
	done := acted(d)
	if e == api.OK {
		d.Stop(-1)
		return false
	}
	if e != api.ErrDown || !nothing(r) || !d.Down() {
		t.Fatalf("%d sectors, stopped behind %d acts: %v, %d, down %v", d.N(), k, r, e, d.Down())
	}
	if done[1]+done[2]-before[1]-before[2] != k {
		t.Fatalf("%d sectors, stopped behind %d acts: %v, and ahead of it %v", d.N(), k, done, before)
	}
	// What has been done stays done: the first acts of the whole run, those behind the last flush pending.
	acts := read(durable).acts()[:k]
	for len(acts) > 0 {
		i := slices.Index(acts, act{flush: true})
		if i < 0 {
			break
		}
		for _, a := range acts[:i] {
			durable[a.write.At] = a.write.Data
		}
		acts = acts[i+1:]
	}
	var pending []api.Write
	for _, a := range acts {
		pending = append(pending, a.write)
	}
	if !slices.Equal(d.Durable(), durable) || !slices.Equal(d.Pending(), pending) {
		t.Fatalf("%d sectors, stopped behind %d acts: pending %v, want %v", d.N(), k, sectorsAt(d.Pending()), sectorsAt(pending))
	}
	return true
}

// lasting is some choices of which of n writes last: none, all, all but one, one alone, every second one, and by chance.
func lasting(r *rand.Rand, n int) [][]bool {
	if n == 0 {
		return [][]bool{nil}
	}
	var l [][]bool
	one := r.Intn(n)
	for _, lasts := range []func(i int) bool{
		func(i int) bool { return false },
		func(i int) bool { return true },
		func(i int) bool { return i != one },
		func(i int) bool { return i == one },
		func(i int) bool { return i%2 == 0 },
		func(i int) bool { return r.Intn(2) == 0 },
	} {
		var truths []bool
		for i := range n {
			truths = append(truths, lasts(i))
		}
		l = append(l, truths)
	}
	return l
}

// fewLasting is three of these: none, all, and by chance.
func fewLasting(r *rand.Rand, n int) [][]bool {
	l := lasting(r, n)
	if n == 0 {
		return l
	}
	return [][]bool{l[0], l[1], l[len(l)-1]}
}

// everyLasting is all choices of which of n writes last.
func everyLasting(n int) [][]bool {
	var l [][]bool
	for k := range 1 << n {
		truths := make([]bool, n)
		for i := range truths {
			truths[i] = k>>i&1 == 1
		}
		l = append(l, truths)
	}
	return l
}

// sweep has runs over a disk stopped ahead of every act, or ahead of every few, and holds what comes of it, for each of the choices of what lasts.
func sweep(t *testing.T, l []api.Sector, every int, choices func(n int) [][]bool) {
	t.Helper()
	a := aimOf(l)
	for k := 0; ; k += every {
		d := deviceOf(t, l)
		if !stops(t, d, k) {
			a.whole(t, d)
			return
		}
		for _, lasts := range choices(len(d.Pending())) {
			c := d.Copy()
			c.Restart(lasts...)
			a.between(t, c.Durable())
			a.whole(t, c)
		}
	}
}

// P6, P7, P11: a stop ahead of every act, of disks on which one thing is wrong, or many are.
func TestStopAnywhere(t *testing.T) {
	for what, d := range wrongs(t) {
		t.Run(what, func(t *testing.T) {
			t.Parallel()
			r := rand.New(rand.NewSource(40))
			sweep(t, d.l, 1, func(n int) [][]bool { return lasting(r, n) })
		})
	}
}

// P6: a stop ahead of every act, and each choice of what lasts that there is.
func TestStopWithEveryChoice(t *testing.T) {
	full := zeros(t, 64)
	for at := range full.data {
		full.l[at] = api.Sector{byte(at), 1}
	}
	replayed := full.copy()
	var batch []api.Write
	for i, at := range []int{0, 11, 12, 20, 24, 28, 29, 63} {
		batch = append(batch, api.Write{At: at, Data: api.Sector{7, byte(i)}})
	}
	replayed.commit(batch...)
	for what, d := range map[string]*disk{"zeros": zeros(t, 64), "the whole head": full, "a replay": replayed} {
		t.Run(what, func(t *testing.T) {
			t.Parallel()
			sweep(t, d.l, 1, everyLasting)
		})
	}
}

// P6: two stops one behind the other: ahead of every act, and in the run behind it ahead of every act.
func TestTwoStops(t *testing.T) {
	for what, d := range map[string]*disk{"zeros": zeros(t, 64), "a replay": wrongs(t)["committed, and more"], "rubbish": wrongs(t)["rubbish"]} {
		t.Run(what, func(t *testing.T) {
			t.Parallel()
			a := aimOf(d.l)
			r := rand.New(rand.NewSource(41))
			for k := 0; ; k++ {
				first := deviceOf(t, d.l)
				if !stops(t, first, k) {
					break
				}
				for _, lasts := range fewLasting(r, len(first.Pending())) {
					first := first.Copy()
					first.Restart(lasts...)
					a.second(t, r, first)
				}
			}
		})
	}
}

// second stops the run over a device that has restarted ahead of every act, with none, all and some of the writes lasting, and has a whole one behind that.
func (a *aim) second(t *testing.T, r *rand.Rand, first *device.Device) {
	t.Helper()
	for k := 0; ; k++ {
		d := first.Copy()
		if !stops(t, d, k) {
			return
		}
		for _, lasts := range fewLasting(r, len(d.Pending())) {
			c := d.Copy()
			c.Restart(lasts...)
			a.between(t, c.Durable())
			a.whole(t, c)
		}
	}
}

// stumble has a device run and stop again and again, up to so many times, each time anywhere and with whatever lasts, and then a whole run.
func (a *aim) stumble(t *testing.T, r *rand.Rand, d *device.Device, times int) int {
	t.Helper()
	before := slices.Clone(d.Durable())
	for i := range times {
		most := len(read(d.Durable()).acts())
		if !stops(t, d, r.Intn(most+1)) {
			return i
		}
		choices := lasting(r, len(d.Pending()))
		d.Restart(choices[r.Intn(len(choices))]...)
		a.between(t, d.Durable())
		fewer(t, before, d.Durable())
		before = d.Durable()
	}
	a.whole(t, d)
	return times
}

// fewer: P11 from one stop to the next: each write that is left was left ahead of the run, too.
func fewer(t *testing.T, before, now []api.Sector) {
	t.Helper()
	was := left(t, before)
	for _, w := range left(t, now) {
		if !slices.Contains(was, w) {
			t.Fatalf("%d sectors: P11: a write to %d is left that was not ahead of the run", len(now), w.At)
		}
	}
}

// P6, P11: many stops one behind the other.
func TestManyStops(t *testing.T) {
	for what, d := range wrongs(t) {
		t.Run(what, func(t *testing.T) {
			t.Parallel()
			r := rand.New(rand.NewSource(42))
			a := aimOf(d.l)
			for times := range 25 {
				dev := deviceOf(t, d.l)
				a.stumble(t, r, dev, times)
				checkDone(t, dev)
				checkProper(t, dev.Durable())
			}
		})
	}
}

// P6: one and the same stop, ahead of the same act, again and again: it comes no farther, and still it comes right.
func TestTheSameStopAgain(t *testing.T) {
	d := wreck(t)
	a := aimOf(d.l)
	for k := range 30 {
		for _, lasts := range [][]bool{nil, slices.Repeat([]bool{true}, 8)} {
			dev := deviceOf(t, d.l)
			for range 20 {
				if !stops(t, dev, k) {
					break
				}
				dev.Restart(lasts...)
			}
			a.between(t, dev.Durable())
			a.whole(t, dev)
		}
	}
}

// P6: a machine that does a whole batch between two stops, and no more, ends nevertheless: each time less is left.
func TestBatchByBatch(t *testing.T) {
	d := wreck(t)
	a := aimOf(d.l)
	dev := deviceOf(t, d.l)
	for many := len(a.left); many > 0; {
		if !stops(t, dev, 22) {
			break
		}
		dev.Restart()
		now := len(left(t, dev.Durable()))
		if now != max(0, many-8) {
			t.Fatalf("%d are left, and ahead of it were %d", now, many)
		}
		many = now
	}
	a.whole(t, dev)
}

// P6, P11: great disks, stopped ahead of every few acts.
func TestStopsOfGreatDisks(t *testing.T) {
	r := rand.New(rand.NewSource(43))
	for i, n := range []int{480, 961, 1024} {
		d := byChance(t, r, n)
		d.anyMark(r)
		t.Run(fmt.Sprint(n), func(t *testing.T) {
			t.Parallel()
			r := rand.New(rand.NewSource(int64(44 + i)))
			sweep(t, d.l, 29, func(n int) [][]bool { return fewLasting(r, n) })
			a := aimOf(d.l)
			for times := range 6 {
				a.stumble(t, r, deviceOf(t, d.l), times)
			}
		})
	}
}

// P11: where any part of what is left is written by hand, just the others are left; the run over it ends the same.
func TestWrittenByHand(t *testing.T) {
	r := rand.New(rand.NewSource(45))
	for what, d := range wrongs(t) {
		a := aimOf(d.l)
		all := a.first.left()
		for i := range 3 + 2*len(all) {
			now := slices.Clone(a.first.d0)
			now[2] = api.Sector{}
			var others []api.Write
			for k, w := range all {
				alone, but := i == k, i == k+len(all)
				if i < len(all) && alone || i >= len(all) && i < 2*len(all) && !but || i >= 2*len(all) && r.Intn(2) == 0 {
					now[w.At] = w.Data
				} else {
					others = append(others, w)
				}
			}
			if got := left(t, now); !slices.Equal(got, others) {
				t.Fatalf("%s: %v are left, want %v", what, sectorsAt(got), sectorsAt(others))
			}
			a.between(t, now)
			a.whole(t, deviceOf(t, now))
		}
	}
}

// P11: the same ahead of the replay: what the mark tells is written over it.
func TestWrittenByHandAheadOfTheReplay(t *testing.T) {
	r := rand.New(rand.NewSource(46))
	for _, d := range wrongs(t) {
		a := aimOf(d.l)
		if a.first.mark != committed {
			continue
		}
		for range 40 {
			now := slices.Clone(d.l)
			for _, w := range a.first.left() {
				if r.Intn(2) == 0 {
					now[w.At] = w.Data
				}
			}
			a.between(t, now)
			a.whole(t, deviceOf(t, now))
		}
	}
}
