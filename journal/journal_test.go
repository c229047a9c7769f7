package journal_test

import (
	"encoding/binary"
	"hash/crc32"
	"math"
	"math/rand"
	"slices"
	"testing"

	"assay/api"
	"assay/device"
	"assay/journal"
	"assay/mark"
)

// Two sectors that are told apart by their first and by their last byte.
var x, y = api.Sector{0: 1, 63: 10}, api.Sector{0: 2, 63: 20}

// some is n sectors by chance with an empty mark, the same for the same seed.
func some(n int, seed int64) []api.Sector {
	r := rand.New(rand.NewSource(seed))
	l := make([]api.Sector, n)
	for i := range l {
		r.Read(l[i][:])
	}
	if n > 2 {
		l[2] = api.Sector{}
	}
	return l
}

// made is a device of these sectors.
func made(t *testing.T, l []api.Sector) *device.Device {
	t.Helper()
	d, e := device.New(l)
	if e != api.OK {
		t.Fatalf("New of %d sectors: %d", len(l), e)
	}
	return d
}

// zeros is a device of 64 sectors, all zeros.
func zeros(t *testing.T) *device.Device {
	t.Helper()
	return made(t, make([]api.Sector, 64))
}

// fallen is a device that is down, with one write pending.
func fallen(t *testing.T) *device.Device {
	t.Helper()
	d := zeros(t)
	d.Stop(1)
	d.Write(30, y)
	d.Flush()
	return d
}

// view is all that a device tells without being changed.
type view struct {
	sectors, durable       []api.Sector
	pending                []api.Write
	down                   bool
	reads, writes, flushes int
}

func seen(d *device.Device) view {
	v := view{sectors: d.Sectors(), durable: d.Durable(), pending: d.Pending(), down: d.Down()}
	v.reads, v.writes, v.flushes = d.Acts()
	return v
}

func (v view) is(o view) bool {
	return slices.Equal(v.sectors, o.sectors) && slices.Equal(v.durable, o.durable) && slices.Equal(v.pending, o.pending) &&
		v.down == o.down && v.reads == o.reads && v.writes == o.writes && v.flushes == o.flushes
}

// acts fails the test, unless so many reads, writes and flushes were done.
func acts(t *testing.T, d *device.Device, reads, writes, flushes int) {
	t.Helper()
	if r, w, f := d.Acts(); r != reads || w != writes || f != flushes {
		t.Errorf("Acts: %d %d %d, want %d %d %d", r, w, f, reads, writes, flushes)
	}
}

// answers fails the test, unless the call answered this.
func answers(t *testing.T, what string, got, want api.Errno) {
	t.Helper()
	if got != want {
		t.Errorf("%s: %d, want %d", what, got, want)
	}
}

// replays fails the test, unless Replay answers this state and OK.
func replays(t *testing.T, what string, d *device.Device, want int) {
	t.Helper()
	if s, e := journal.Replay(d); s != want || e != api.OK {
		t.Errorf("%s: Replay: %d, %d, want %d, 0", what, s, e, want)
	}
}

// markOf is a mark as chapter 9 tells it, of targets that may be a batch's or not.
func markOf(l []api.Write) api.Sector {
	s := api.Sector{0x4A, 0x4D, byte(len(l))}
	var all []byte
	for i, w := range l {
		binary.LittleEndian.PutUint16(s[4+2*i:], uint16(w.At))
		all = append(all, w.Data[:]...)
	}
	binary.LittleEndian.PutUint32(s[20:], crc32.ChecksumIEEE(all))
	binary.LittleEndian.PutUint32(s[60:], crc32.ChecksumIEEE(s[:60]))
	return s
}

// flush stands for a flush among writes.
const flush = -1

// The chapter's four steps, as writes and flushes.
func steps(l []api.Write) [4][]api.Write {
	var first []api.Write
	for i, w := range l {
		first = append(first, api.Write{At: 3 + i, Data: w.Data})
	}
	end := api.Write{At: flush}
	return [4][]api.Write{
		append(first, end),
		{{At: 2, Data: markOf(l)}, end},
		append(slices.Clone(l), end),
		{{At: 2}, end},
	}
}

// does takes the acts one by one, up to the first that the device refuses.
func does(d *device.Device, l ...[]api.Write) api.Errno {
	for _, w := range slices.Concat(l...) {
		e := api.OK
		if w.At == flush {
			e = d.Flush()
		} else {
			e = d.Write(w.At, w.Data)
		}
		if e != api.OK {
			return e
		}
	}
	return api.OK
}

// batch is k writes by chance to targets by chance, rising, of a disk of n sectors.
func batch(k, n int, seed int64) []api.Write {
	r := rand.New(rand.NewSource(seed))
	may := []int{0, 1}
	for at := 11; at < n; at++ {
		may = append(may, at)
	}
	r.Shuffle(len(may), func(a, b int) { may[a], may[b] = may[b], may[a] })
	l := make([]api.Write, k)
	for i := range l {
		l[i].At = may[i]
	}
	slices.SortFunc(l, func(a, b api.Write) int { return a.At - b.At })
	for i := range l {
		r.Read(l[i].Data[:])
	}
	return l
}

// over is the sectors with the writes over them.
func over(sectors []api.Sector, l []api.Write) []api.Sector {
	o := slices.Clone(sectors)
	for _, w := range l {
		o[w.At] = w.Data
	}
	return o
}

// noJournal is the sectors with zeros as the journal's, so that these aren't compared.
func noJournal(sectors []api.Sector) []api.Sector {
	o := slices.Clone(sectors)
	clear(o[3:11])
	return o
}

// committed is a disk of n sectors by chance with a mark of a batch of k, and that batch.
func committed(k, n int, seed int64) ([]api.Sector, []api.Write) {
	b := batch(k, n, seed)
	l := some(n, seed)
	l[2] = markOf(b)
	for i, w := range b {
		l[3+i] = w.Data
	}
	return l, b
}

// truths goes through all lists of k truths.
func truths(k int, yield func([]bool)) {
	for m := range 1 << k {
		l := make([]bool, k)
		for i := range l {
			l[i] = m>>i&1 == 1
		}
		yield(l)
	}
}

// P10.1: the first example.
func TestDoOfTwo(t *testing.T) {
	d := zeros(t)
	answers(t, "Do", journal.Do(d, []api.Write{{At: 20, Data: x}, {At: 21, Data: y}}), api.OK)
	acts(t, d, 0, 6, 4)
	want := make([]api.Sector, 64)
	want[20], want[21], want[3], want[4] = x, y, x, y
	if !slices.Equal(d.Durable(), want) || !slices.Equal(d.Sectors(), want) || len(d.Pending()) != 0 || d.Down() {
		t.Error("other sectors than the example's")
	}
}

// P10.1, P10.2: the second example.
func TestDoOfTwoWithStops(t *testing.T) {
	for _, c := range []struct {
		stop  int
		lasts []bool
		state int
		done  bool
	}{
		{3, nil, mark.Empty, false},
		{4, nil, mark.Empty, false},
		{4, []bool{true}, mark.Committed, true},
		{5, nil, mark.Committed, true},
		{5, []bool{true, true, true}, mark.Committed, true},
	} {
		d := zeros(t)
		d.Stop(c.stop)
		answers(t, "Do", journal.Do(d, []api.Write{{At: 20, Data: x}, {At: 21, Data: y}}), api.ErrDown)
		d.Restart(c.lasts...)
		replays(t, "behind the stop", d, c.state)
		want := [2]api.Sector{}
		if c.done {
			want = [2]api.Sector{x, y}
		}
		if l := d.Durable(); [2]api.Sector{l[20], l[21]} != want {
			t.Errorf("Stop(%d), Restart(%v): %v, %v", c.stop, c.lasts, l[20], l[21])
		}
	}
}

// P10.1, P10.2, P10.3: the third example.
func TestWhatTheThirdExampleRefuses(t *testing.T) {
	d := zeros(t)
	before := seen(d)
	for _, l := range [][]api.Write{nil, {}, {{At: 2, Data: x}}, {{At: 3, Data: x}}, {{At: 21, Data: y}, {At: 20, Data: x}}, {{At: 64, Data: x}}} {
		answers(t, "Do of no batch", journal.Do(d, l), api.ErrBatch)
	}
	if !seen(d).is(before) {
		t.Error("a batch that is refused did something")
	}
	noDevice(t, []api.Write{{At: 20, Data: x}})
}

// noDevice fails the test, unless each call of a nil device is refused.
func noDevice(t *testing.T, l []api.Write) {
	t.Helper()
	answers(t, "Do(nil)", journal.Do(nil, l), api.ErrArg)
	answers(t, "Clear(nil)", journal.Clear(nil), api.ErrArg)
	if s, e := journal.Replay(nil); s != 0 || e != api.ErrArg {
		t.Errorf("Replay(nil): %d, %d", s, e)
	}
}

// P10.2, P10.3: the fourth example.
func TestReplayOfRubbish(t *testing.T) {
	d := zeros(t)
	d.Write(2, x)
	d.Flush()
	replays(t, "rubbish", d, mark.Rubbish)
	acts(t, d, 9, 2, 2)
	replays(t, "again", d, mark.Empty)
	acts(t, d, 18, 2, 2)
	answers(t, "Clear", journal.Clear(d), api.OK)
	acts(t, d, 18, 3, 3)
}

// refused is batches that chapter 9's Put refuses for a disk of n sectors.
func refused(n int) [][]api.Write {
	l := [][]api.Write{nil, {}, make([]api.Write, 9), make([]api.Write, 1<<12), batch(9, n, 1), batch(20, n, 2)}
	for _, at := range []int{math.MinInt, -65516, -64, -2, -1, 2, 3, 4, 5, 6, 7, 8, 9, 10, n, n + 1, 1024, 1 << 16, 1<<16 + 20, 1<<32 + 20, math.MaxInt} {
		l = append(l, []api.Write{{At: at, Data: x}})
		l = append(l, []api.Write{{At: 0, Data: x}, {At: at, Data: y}})
		l = append(l, []api.Write{{At: at, Data: x}, {At: n - 1, Data: y}})
	}
	for _, at := range [][]int{{20, 20}, {21, 20}, {0, 1, 1}, {0, 11, 12, 13, 14, 15, 16, 16}, {63, 0}, {0, 1, 12, 11}} {
		var b []api.Write
		for _, a := range at {
			b = append(b, api.Write{At: a, Data: x})
		}
		l = append(l, b)
	}
	return l
}

// P10.1: nothing has been done where a batch is refused, of a device in whatever state.
func TestNoBatchDoesNothing(t *testing.T) {
	for _, n := range []int{64, 65, 500, 1023, 1024} {
		for _, l := range refused(n) {
			d := made(t, some(n, int64(n)))
			d.Write(2, x)
			d.Write(40, y)
			d.Stop(0)
			before := seen(d)
			answers(t, "Do", journal.Do(d, l), api.ErrBatch)
			if !seen(d).is(before) {
				t.Errorf("%d sectors: a batch of %d that is refused did something", n, len(l))
			}
			answers(t, "the stop that was set", d.Flush(), api.ErrDown)
		}
	}
}

// P10.1, P4: a batch that may not be is told ahead of a device that is down, and no device ahead of both.
func TestWhichErrorComesFirst(t *testing.T) {
	d := fallen(t)
	before := seen(d)
	for _, l := range refused(64) {
		noDevice(t, l)
		answers(t, "Do of no batch", journal.Do(d, l), api.ErrBatch)
	}
	answers(t, "Do of a batch", journal.Do(d, []api.Write{{At: 20}}), api.ErrDown)
	if !seen(d).is(before) {
		t.Error("a device that is down was changed")
	}
}

// P10.1, P10.2, P10.3: of a device that is down.
func TestDeviceThatIsDown(t *testing.T) {
	d := fallen(t)
	before := seen(d)
	for k := 1; k <= 8; k++ {
		answers(t, "Do", journal.Do(d, batch(k, 64, 3)), api.ErrDown)
	}
	answers(t, "Clear", journal.Clear(d), api.ErrDown)
	if s, e := journal.Replay(d); s != 0 || e != api.ErrDown {
		t.Errorf("Replay: %d, %d", s, e)
	}
	if !seen(d).is(before) {
		t.Error("a device that is down was changed")
	}
}

// P10.1: each batch's acts are the chapter's, up to the first that is refused, wherever the stop is; whatever the mark is, and be writes pending or not.
func TestTheActsOfDo(t *testing.T) {
	for _, n := range []int{64, 65, 480, 1023, 1024} {
		for k := 1; k <= 8; k++ {
			for stop := -1; stop <= 2*k+7; stop++ {
				for kind := range 4 {
					l := batch(k, n, int64(n+k))
					sectors := some(n, int64(n))
					sectors[2][5] = byte(kind % 2)
					d := made(t, sectors)
					if kind > 1 {
						d.Write(l[0].At, y)
						d.Write(3, y)
						d.Write(2, y)
					}
					d.Stop(stop)
					model := d.Copy()
					s := steps(l)
					want := does(model, s[0], s[1], s[2], s[3])
					answers(t, "Do", journal.Do(d, l), want)
					if !seen(d).is(seen(model)) {
						t.Fatalf("%d sectors, %d writes, Stop(%d): other acts than the chapter's", n, k, stop)
					}
					if done := stop < 0 || stop >= 2*k+6; done != (want == api.OK) {
						t.Fatalf("%d writes, Stop(%d): %d", k, stop, want)
					}
				}
			}
		}
	}
}

// P10.1: how many writes and flushes, and no read.
func TestHowManyActs(t *testing.T) {
	for k := 1; k <= 8; k++ {
		d := made(t, some(64, 4))
		l := batch(k, 64, int64(k))
		before := d.Durable()
		answers(t, "Do", journal.Do(d, l), api.OK)
		acts(t, d, 0, 2*k+2, 4)
		want := over(before, l)
		for i, w := range l {
			want[3+i] = w.Data
		}
		if !slices.Equal(d.Durable(), want) || len(d.Pending()) != 0 {
			t.Errorf("%d writes: other sectors", k)
		}
	}
}

// P10.1: the places at the edges, each alone and all together.
func TestTargetsAtTheEdges(t *testing.T) {
	for _, n := range []int{64, 1024} {
		at := []int{0, 1, 11, 12, n - 2, n - 1}
		var all []api.Write
		for _, a := range at {
			all = append(all, api.Write{At: a, Data: api.Sector{1: byte(a), 2: 7}})
			d := made(t, make([]api.Sector, n))
			l := all[len(all)-1:]
			answers(t, "Do of one", journal.Do(d, l), api.OK)
			if !slices.Equal(noJournal(d.Durable()), over(make([]api.Sector, n), l)) {
				t.Errorf("%d sectors, target %d: other sectors", n, a)
			}
		}
		d := made(t, make([]api.Sector, n))
		answers(t, "Do of all", journal.Do(d, all), api.OK)
		if !slices.Equal(noJournal(d.Durable()), over(make([]api.Sector, n), all)) {
			t.Errorf("%d sectors: other sectors", n)
		}
	}
}

// P10.2: an empty mark: nine reads and no more, whatever lies in the journal, and be writes pending or not.
func TestReplayOfAnEmptyMark(t *testing.T) {
	for _, n := range []int{64, 65, 1024} {
		d := made(t, some(n, 5))
		d.Write(40, x)
		d.Stop(0)
		want := seen(d)
		want.reads = 9
		replays(t, "empty", d, mark.Empty)
		if !seen(d).is(want) {
			t.Errorf("%d sectors: more than nine reads", n)
		}
	}
}

// P10.2: a mark that is committed: the chapter's steps 3 and 4 and no others, wherever the stop is.
func TestReplayOfACommittedMark(t *testing.T) {
	for _, n := range []int{64, 65, 480, 1024} {
		for k := 1; k <= 8; k++ {
			for stop := -1; stop <= k+4; stop++ {
				l, b := committed(k, n, int64(n+k))
				d := made(t, l)
				d.Stop(stop)
				model := d.Copy()
				s := steps(b)
				replaysAs(t, d, model, mark.Committed, s[2], s[3])
				if done := stop < 0 || stop >= k+3; done && !slices.Equal(d.Durable(), over(over(l, b), []api.Write{{At: 2}})) {
					t.Fatalf("%d sectors, %d writes: other sectors", n, k)
				}
			}
		}
	}
}

// replaysAs holds a Replay against nine reads and these acts, and its answer against the state.
func replaysAs(t *testing.T, d, model *device.Device, state int, l ...[]api.Write) {
	t.Helper()
	for at := 2; at <= 10; at++ {
		model.Read(at)
	}
	e := does(model, l...)
	if e != api.OK {
		state = 0
	}
	if s, got := journal.Replay(d); s != state || got != e {
		t.Errorf("Replay: %d, %d, want %d, %d", s, got, state, e)
	}
	if !seen(d).is(seen(model)) {
		t.Fatal("other acts than the chapter's")
	}
}

// P10.2: a mark and a journal that are pending still are read as they were written.
func TestReplayReadsWhatIsPending(t *testing.T) {
	for k := 1; k <= 8; k++ {
		for stop := -1; stop <= k+4; stop++ {
			d := made(t, some(64, 6))
			b := batch(k, 64, int64(k))
			s := steps(b)
			for _, w := range slices.Concat(s[0][:k], s[1][:1]) {
				d.Write(w.At, w.Data)
			}
			d.Stop(stop)
			replaysAs(t, d, d.Copy(), mark.Committed, s[2], s[3])
		}
	}
}

// rubbish is disks of n sectors whose mark is rubbish.
func rubbish(n int) [][]api.Sector {
	var out [][]api.Sector
	for i := range 64 {
		l := some(n, int64(i))
		l[2][i] = 1
		out = append(out, l)
	}
	for k := 1; k <= 8; k++ {
		// The journal is another, at its first and at its last sector.
		for _, i := range []int{0, k - 1} {
			l, _ := committed(k, n, int64(k))
			l[3+i][63] ^= 0x80
			out = append(out, l)
		}
		// The mark's own sum is another.
		l, _ := committed(k, n, int64(k))
		l[2][59] ^= 1
		out = append(out, l)
		// A target may not be, and all sums are right.
		for _, at := range []int{2, 3, 10, n, 1 << 15} {
			l, b := committed(k, n, int64(k))
			b[k-1].At = at
			l[2] = markOf(b)
			out = append(out, l)
		}
	}
	// Two targets out of order, and all sums are right.
	l, b := committed(2, n, 1)
	b[0].At, b[1].At = b[1].At, b[0].At
	l[2] = markOf(b)
	return append(out, l)
}

// P10.2: a mark that is rubbish: step 4 alone, wherever the stop is.
func TestReplayOfEachRubbish(t *testing.T) {
	for _, n := range []int{64, 1024} {
		for _, l := range rubbish(n) {
			for stop := -1; stop <= 3; stop++ {
				d := made(t, l)
				d.Stop(stop)
				replaysAs(t, d, d.Copy(), mark.Rubbish, []api.Write{{At: 2}, {At: flush}})
			}
		}
	}
}

// P10.2: a mark's targets are held against this device's number of sectors.
func TestReplayAsksTheNumberOfSectors(t *testing.T) {
	for n := 64; n <= 130; n++ {
		b := []api.Write{{At: 100, Data: x}}
		l := some(n, 7)
		l[2], l[3] = markOf(b), x
		want := mark.Rubbish
		if n > 100 {
			want = mark.Committed
		}
		d := made(t, l)
		replays(t, "a target", d, want)
		if n > 100 && d.Durable()[100] != x {
			t.Errorf("%d sectors: the target is another", n)
		}
	}
}

// P10.3
func TestClear(t *testing.T) {
	marks := []api.Sector{{}, x, markOf([]api.Write{{At: 20, Data: x}}), {63: 255}}
	for _, n := range []int{64, 65, 1024} {
		for _, m := range marks {
			for stop := -1; stop <= 3; stop++ {
				for pending := range 3 {
					l := some(n, int64(n))
					l[2], l[3] = m, x
					d := made(t, l)
					for i := range pending {
						d.Write(1+i, y)
					}
					d.Stop(stop)
					model := d.Copy()
					answers(t, "Clear", journal.Clear(d), does(model, []api.Write{{At: 2}, {At: flush}}))
					if !seen(d).is(seen(model)) {
						t.Fatalf("%d sectors, Stop(%d), %d pending: other acts than the chapter's", n, stop, pending)
					}
				}
			}
		}
	}
}

// P10.4: each number of acts, each truths of what is pending then.
func TestWholeOrNotAtAll(t *testing.T) {
	for k := 1; k <= 8; k++ {
		before := some(64, int64(k))
		l := batch(k, 64, int64(k))
		for stop := -1; stop <= 2*k+7; stop++ {
			d := made(t, before)
			d.Stop(stop)
			e := journal.Do(d, l)
			truths(len(d.Pending()), func(lasts []bool) {
				c := d.Copy()
				c.Restart(lasts...)
				state := mark.Empty
				// Of the mark that is pending alone the truth tells; of zeros over it too.
				if sure := stop > k+2 && stop < 2*k+5; sure || stop == k+2 && lasts[0] || stop == 2*k+5 && !lasts[0] {
					state = mark.Committed
				}
				replays(t, "behind a stop", c, state)
				want := noJournal(before)
				if e == api.OK || stop > k+2 || state == mark.Committed {
					want = over(want, l)
				}
				if got := noJournal(c.Durable()); !slices.Equal(got, want) || got[2] != (api.Sector{}) || len(c.Pending()) != 0 {
					t.Fatalf("%d writes, Stop(%d), Restart(%v): other sectors", k, stop, lasts)
				}
				replays(t, "again", c, mark.Empty)
			})
		}
	}
}

// P10.4: truths that are more or fewer than what is pending.
func TestTruthsThatDontFit(t *testing.T) {
	l := batch(5, 64, 8)
	before := some(64, 8)
	for stop := range 18 {
		for k := range 12 {
			for _, truth := range []bool{false, true} {
				lasts := make([]bool, k)
				for i := range lasts {
					lasts[i] = truth
				}
				d := made(t, before)
				d.Stop(stop)
				journal.Do(d, l)
				d.Restart(lasts...)
				if _, e := journal.Replay(d); e != api.OK {
					t.Fatalf("Replay: %d", e)
				}
				got := noJournal(d.Durable())
				none, all := slices.Equal(got, noJournal(before)), slices.Equal(got, over(noJournal(before), l))
				if none == all || stop > 7 && none {
					t.Errorf("Stop(%d), %d times %v: none %v, all %v", stop, k, truth, none, all)
				}
			}
		}
	}
}

// P10.4: batches one behind the other, any of them with a stop, each replayed.
func TestBatchesOneBehindTheOther(t *testing.T) {
	r := rand.New(rand.NewSource(9))
	for _, n := range []int{64, 200, 1024} {
		d := made(t, some(n, 9))
		want := noJournal(d.Durable())
		for i := range 2000 {
			l := batch(1+r.Intn(8), n, int64(i))
			d.Stop(r.Intn(30) - 1)
			e := journal.Do(d, l)
			d.Restart(chance(r)...)
			state, again := journal.Replay(d)
			if again != api.OK || e == api.OK && state != mark.Empty {
				t.Fatalf("Replay: %d, %d", state, again)
			}
			got := noJournal(d.Durable())
			if all := over(want, l); e == api.OK || state == mark.Committed || slices.Equal(got, all) {
				want = all
			}
			if !slices.Equal(got, want) {
				t.Fatalf("batch %d: neither none of it nor all", i)
			}
		}
	}
}

// chance is some truths.
func chance(r *rand.Rand) []bool {
	l := make([]bool, r.Intn(10))
	for i := range l {
		l[i] = r.Intn(2) == 0
	}
	return l
}

// P10.5: of each kind of mark: each number of acts, each truths of what is pending then.
func TestReplayAgain(t *testing.T) {
	disks := rubbish(64)
	disks = append(disks, some(64, 10))
	for k := 1; k <= 8; k++ {
		l, _ := committed(k, 64, int64(k))
		disks = append(disks, l)
	}
	for _, l := range disks {
		once := made(t, l)
		if _, e := journal.Replay(once); e != api.OK {
			t.Fatalf("Replay: %d", e)
		}
		want := once.Durable()
		for stop := range 13 {
			d := made(t, l)
			d.Stop(stop)
			journal.Replay(d)
			truths(len(d.Pending()), func(lasts []bool) {
				c := d.Copy()
				c.Restart(lasts...)
				if _, e := journal.Replay(c); e != api.OK || !slices.Equal(c.Durable(), want) || !slices.Equal(c.Sectors(), want) {
					t.Fatalf("Stop(%d), Restart(%v): %d, or other sectors", stop, lasts, e)
				}
			})
		}
	}
}

// P10.5: stops one behind the other.
func TestReplayStoppedManyTimes(t *testing.T) {
	r := rand.New(rand.NewSource(11))
	for i := range 500 {
		l, b := committed(1+r.Intn(8), 64+r.Intn(961), int64(i))
		d := made(t, l)
		for range r.Intn(20) {
			d.Stop(r.Intn(12))
			journal.Replay(d)
			d.Restart(chance(r)...)
		}
		if s, e := journal.Replay(d); s != mark.Committed && s != mark.Empty || e != api.OK {
			t.Fatalf("Replay: %d, %d", s, e)
		}
		if want := over(over(l, b), []api.Write{{At: 2}}); !slices.Equal(d.Durable(), want) {
			t.Fatal("other sectors than of one Replay")
		}
	}
}

// P10.6
func TestBehindAReplay(t *testing.T) {
	disks := append(rubbish(64), rubbish(1024)...)
	for n := 64; n <= 1024; n += 5 {
		l, _ := committed(1+n%8, n, int64(n))
		disks = append(disks, l, some(n, int64(n)))
		l = some(n, int64(n))
		l[2] = l[20]
		disks = append(disks, l)
	}
	for _, l := range disks {
		d := made(t, l)
		if _, e := journal.Replay(d); e != api.OK {
			t.Fatalf("Replay: %d", e)
		}
		want := seen(d)
		if d.Durable()[2] != (api.Sector{}) || len(want.pending) != 0 {
			t.Error("the mark is not empty, or something is pending")
		}
		want.reads += 9
		d.Stop(0)
		replays(t, "a second one", d, mark.Empty)
		if !seen(d).is(want) {
			t.Error("a second Replay does more than to read")
		}
	}
}

// P2: what is handed in stays, the spare room behind it too, and is not kept.
func TestWhatIsHandedInStays(t *testing.T) {
	room := append(batch(8, 64, 12), api.Write{At: 77, Data: x}, api.Write{At: 78, Data: y})
	for k := range len(room) {
		for stop := -1; stop <= 2*k+7; stop++ {
			kept := slices.Clone(room)
			d := zeros(t)
			d.Stop(stop)
			journal.Do(d, room[:k])
			if !slices.Equal(room, kept) {
				t.Fatalf("%d writes, Stop(%d): what was handed in is another", k, stop)
			}
			before := seen(d)
			clear(room)
			if !seen(d).is(before) {
				t.Fatalf("%d writes, Stop(%d): what was handed in is kept", k, stop)
			}
			copy(room, kept)
		}
	}
}

// P3, P5: two devices have nothing to do with each other, and the same calls answer the same.
func TestTwoDevices(t *testing.T) {
	l, _ := committed(4, 64, 13)
	a, b, still := made(t, l), made(t, l), made(t, l)
	for i := range 6 {
		for _, d := range []*device.Device{a, b} {
			d.Stop(3 * i)
			journal.Replay(d)
			journal.Do(d, batch(3, 64, int64(i)))
			d.Restart(true, false, true)
			journal.Clear(d)
		}
		if !seen(a).is(seen(b)) {
			t.Fatal("the same calls did something else")
		}
	}
	if !seen(still).is(seen(made(t, l))) {
		t.Error("another device was changed")
	}
}
