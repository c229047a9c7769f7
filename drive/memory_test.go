package drive_test

import (
	"math/rand"
	"slices"
	"testing"

	"assay/api"
	"assay/drive"
)

// scribble writes into a list and into its spare room, and appends to it several times, as a caller may.
func scribble[T any](l []T, v T) {
	l = l[:cap(l)]
	for i := range l {
		l[i] = v
	}
	for range 40 {
		l = append(l, v)
	}
}

// scribbleAll does so with all lists of a report.
func scribbleAll(r api.Report, v byte) {
	scribble(r.Findings, f(int(v), int(v)))
	scribble(r.Fetch, api.Digest{v})
	scribble(r.Dropped, int(v))
}

// cloned is a report that shares nothing with another one.
func cloned(r api.Report) api.Report {
	return api.Report{Status: r.Status, Findings: slices.Clone(r.Findings), Fetch: slices.Clone(r.Fetch), Dropped: slices.Clone(r.Dropped)}
}

// full is a disk of which a report has some in each of its lists, and something is left.
func full(t *testing.T, n int) *disk {
	d := zeros(t, n)
	abc := d.blob(0, "abc")
	d.pin(0, "v1", d.doc(1, api.Manifest, abc, gone(1), gone(2), gone(3)).Key)
	for slot := 2; slot < d.slots; slot++ {
		d.corrupt(slot, "x")
	}
	r := audit(t, d.l, 1)
	if len(r.Findings) < 4 || len(r.Fetch) != 3 || len(r.Dropped) < 3 {
		t.Fatal(r)
	}
	return d
}

// P2: the sectors that are handed in stay as they were, and the spare room behind them too; what they are later isn't seen.
func TestTheSectorsStay(t *testing.T) {
	r := rand.New(rand.NewSource(80))
	for _, n := range sizes() {
		d := byChance(t, r, n)
		d.anyMark(r)
		room := make([]api.Sector, n+20)
		copy(room, d.l)
		noise(r, room[n:])
		was := slices.Clone(room)
		told, writes := audit(t, room[:n], 3), left(t, room[:n])
		if !slices.Equal(room, was) {
			t.Fatalf("%d sectors: they have changed", n)
		}
		report, kept := cloned(told), slices.Clone(writes)
		noise(r, room)
		if !same(told, report) || !slices.Equal(writes, kept) {
			t.Fatalf("%d sectors: what they are later is seen", n)
		}
	}
}

// P2: an answer may be written into and grown, more than once: no other answer sees it, nor do the sectors.
func TestAnswersAreNewMemory(t *testing.T) {
	for _, n := range sizes() {
		d := full(t, n)
		was := slices.Clone(d.l)
		want, writes := cloned(audit(t, d.l, 1)), slices.Clone(left(t, d.l))
		one, two := audit(t, d.l, 1), audit(t, d.l, 2)
		mine, yours := left(t, d.l), left(t, d.l)
		for v := range byte(3) {
			scribbleAll(one, 100+v)
			scribble(mine, api.Write{At: int(v)})
			scribble(mine[:1], api.Write{At: int(v)})
			if !same(two, want) || !slices.Equal(yours, writes) || !slices.Equal(d.l, was) {
				t.Fatalf("%d sectors: one answer sees another", n)
			}
			if !same(audit(t, d.l, 3), want) || !slices.Equal(left(t, d.l), writes) {
				t.Fatalf("%d sectors: a later answer sees one", n)
			}
		}
	}
}

// P2: the lists of one report share no memory.
func TestTheListsOfAReport(t *testing.T) {
	for _, n := range few() {
		d := full(t, n)
		r := audit(t, d.l, 1)
		want := cloned(r)
		scribble(r.Findings, f(9, 9))
		scribble(r.Dropped, 99)
		if !slices.Equal(r.Fetch, want.Fetch) {
			t.Errorf("%d sectors: the plan has changed", n)
		}
		r = audit(t, d.l, 1)
		scribble(r.Fetch, api.Digest{})
		scribble(r.Findings, f(9, 9))
		if !slices.Equal(r.Dropped, want.Dropped) {
			t.Errorf("%d sectors: what is dropped has changed", n)
		}
		r = audit(t, d.l, 1)
		scribble(r.Dropped, 99)
		if !slices.Equal(r.Findings, want.Findings) {
			t.Errorf("%d sectors: what is found has changed", n)
		}
	}
}

// P2: what a run told may be written into: neither the device nor a further run sees it.
func TestARunsReport(t *testing.T) {
	for _, n := range few() {
		d := full(t, n)
		dev, other := deviceOf(t, d.l), deviceOf(t, d.l)
		told, again := run(t, dev, 1), run(t, other, 1)
		want, end := cloned(again), dev.Durable()
		for v := range byte(3) {
			scribbleAll(told, v)
			if !same(again, want) || !slices.Equal(dev.Durable(), end) || !slices.Equal(other.Durable(), end) {
				t.Fatalf("%d sectors: it is seen", n)
			}
		}
		checkDone(t, dev)
	}
}

// P3: the same disk answers the same, however often and in whatever order it is asked, and whatever is asked of other disks between.
func TestTheSameAnswers(t *testing.T) {
	r := rand.New(rand.NewSource(81))
	var disks []*disk
	var told []api.Report
	var writes [][]api.Write
	for _, n := range []int{64, 64, 128, 481, 1024} {
		d := byChance(t, r, n)
		d.anyMark(r)
		disks = append(disks, d)
		told, writes = append(told, audit(t, d.l, 1)), append(writes, left(t, d.l))
	}
	for range 120 {
		i := r.Intn(len(disks))
		l := disks[i].l
		switch r.Intn(3) {
		case 0:
			if !same(audit(t, l, r.Intn(12)-1), told[i]) {
				t.Fatalf("%d sectors: another report", len(l))
			}
		case 1:
			if !slices.Equal(left(t, l), writes[i]) {
				t.Fatalf("%d sectors: other writes are left", len(l))
			}
		default:
			dev := deviceOf(t, l)
			if !same(run(t, dev, r.Intn(12)-1), told[i]) || firstOther(dev.Durable(), read(l).ends(l)) >= 0 {
				t.Fatalf("%d sectors: another run", len(l))
			}
		}
	}
}

// P5: two devices have nothing to do with each other, be one a copy of the other or not.
func TestTwoDevices(t *testing.T) {
	d := wreck(t)
	want := read(d.l)
	one := deviceOf(t, d.l)
	one.Stop(30)
	two := one.Copy()
	three := deviceOf(t, d.l)
	if _, e := drive.Run(one, 1); e != api.ErrDown {
		t.Fatal(e)
	}
	is(t, acted(two), [3]int{})
	if !slices.Equal(two.Durable(), d.l) || two.Down() {
		t.Error("the copy has changed")
	}
	if r := run(t, three, 1); !same(r, want.report()) {
		t.Errorf("%v", r)
	}
	if _, e := drive.Run(two, 1); e != api.ErrDown || !slices.Equal(two.Sectors(), one.Sectors()) || acted(two) != acted(one) {
		t.Error("the copy goes on otherwise")
	}
	one.Restart()
	run(t, one, 1)
	is(t, two.Down(), true)
	is(t, firstOther(aside(one.Durable()), aside(three.Durable())), -1)
}
