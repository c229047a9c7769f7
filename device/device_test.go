package device_test

import (
	"math"
	"math/rand"
	"slices"
	"testing"

	"assay/api"
	"assay/device"
)

// Three sectors that are told apart by their first and by their last byte.
var x, y, z = api.Sector{0: 1, 63: 10}, api.Sector{0: 2, 63: 20}, api.Sector{0: 3, 63: 30}

// some is n sectors that hang on the seed alone.
func some(seed int64, n int) []api.Sector {
	r := rand.New(rand.NewSource(seed))
	l := make([]api.Sector, n)
	for i := range l {
		r.Read(l[i][:])
	}
	return l
}

// made is a device of these sectors.
func made(t *testing.T, l []api.Sector) *device.Device {
	t.Helper()
	d, e := device.New(l)
	if d == nil || e != api.OK {
		t.Fatalf("New of %d sectors: %v, %d", len(l), d, e)
	}
	return d
}

// blank is a device of 64 sectors, all zeros.
func blank(t *testing.T) *device.Device {
	t.Helper()
	return made(t, make([]api.Sector, 64))
}

// answers fails the test, unless the call answered this.
func answers(t *testing.T, what string, got, want api.Errno) {
	t.Helper()
	if got != want {
		t.Errorf("%s: %d, want %d", what, got, want)
	}
}

// reads fails the test, unless the sector at this place is read so.
func reads(t *testing.T, d *device.Device, at int, want api.Sector) {
	t.Helper()
	if s, e := d.Read(at); s != want || e != api.OK {
		t.Errorf("Read(%d): %v, %d, want %v", at, s, e, want)
	}
}

// unread fails the test, unless to read at this place is this error beside zeros.
func unread(t *testing.T, d *device.Device, at int, want api.Errno) {
	t.Helper()
	if s, e := d.Read(at); s != (api.Sector{}) || e != want {
		t.Errorf("Read(%d): %v, %d, want zeros, %d", at, s, e, want)
	}
}

// acts fails the test, unless so many reads, writes and flushes were done.
func acts(t *testing.T, d *device.Device, reads, writes, flushes int) {
	t.Helper()
	if r, w, f := d.Acts(); r != reads || w != writes || f != flushes {
		t.Errorf("Acts: %d %d %d, want %d %d %d", r, w, f, reads, writes, flushes)
	}
}

// state is all that a device tells without being changed.
type state struct {
	n                      int
	down                   bool
	sectors, durable       []api.Sector
	pending                []api.Write
	reads, writes, flushes int
}

func told(d *device.Device) state {
	s := state{n: d.N(), down: d.Down(), sectors: d.Sectors(), durable: d.Durable(), pending: d.Pending()}
	s.reads, s.writes, s.flushes = d.Acts()
	return s
}

func (s state) is(o state) bool {
	return s.n == o.n && s.down == o.down && slices.Equal(s.sectors, o.sectors) && slices.Equal(s.durable, o.durable) &&
		slices.Equal(s.pending, o.pending) && s.reads == o.reads && s.writes == o.writes && s.flushes == o.flushes
}

// P5.1
func TestNewRefusesOtherSizes(t *testing.T) {
	for n := range 1100 {
		d, e := device.New(make([]api.Sector, n))
		if n >= 64 && n <= 1024 {
			if d == nil || e != api.OK || d.N() != n {
				t.Fatalf("New of %d sectors: %d", n, e)
			}
			continue
		}
		if d != nil || e != api.ErrSize {
			t.Fatalf("New of %d sectors: %v, %d, want nil, ErrSize", n, d, e)
		}
	}
	for _, l := range [][]api.Sector{nil, {}, make([]api.Sector, 63, 64), make([]api.Sector, 1<<16)} {
		if d, e := device.New(l); d != nil || e != api.ErrSize {
			t.Errorf("New of %d sectors: %v, %d, want nil, ErrSize", len(l), d, e)
		}
	}
}

// P5.1
func TestNewLastsAndIsUp(t *testing.T) {
	for _, n := range []int{64, 65, 480, 1023, 1024} {
		l := some(int64(n), n)
		d := made(t, l)
		want := state{n: n, sectors: l, durable: l}
		if !told(d).is(want) {
			t.Fatalf("New of %d sectors tells others", n)
		}
		for range 100 {
			answers(t, "Write without a stop", d.Write(0, x), api.OK)
			answers(t, "Flush without a stop", d.Flush(), api.OK)
		}
		reads(t, d, n-1, l[n-1])
	}
}

// P5.2, P5.3, P5.6: the first example.
func TestWriteLastsBehindAFlush(t *testing.T) {
	d := blank(t)
	answers(t, "Write", d.Write(3, x), api.OK)
	reads(t, d, 3, x)
	if d.Durable()[3] != (api.Sector{}) || d.Sectors()[3] != x {
		t.Error("a write ahead of a flush lasts, or is not read")
	}
	if p := d.Pending(); !slices.Equal(p, []api.Write{{At: 3, Data: x}}) {
		t.Errorf("Pending: %v", p)
	}
	answers(t, "Flush", d.Flush(), api.OK)
	if d.Durable()[3] != x || len(d.Pending()) != 0 {
		t.Error("a flushed write does not last")
	}
	acts(t, d, 1, 1, 1)
}

// P5.2, P5.3
func TestLaterWritesGoOverEarlierOnes(t *testing.T) {
	d := blank(t)
	order := []api.Write{{At: 3, Data: y}, {At: 4, Data: z}, {At: 3, Data: z}, {At: 63, Data: x}, {At: 3, Data: z}, {At: 0, Data: y}}
	for i, w := range order {
		answers(t, "Write", d.Write(w.At, w.Data), api.OK)
		if !slices.Equal(d.Pending(), order[:i+1]) {
			t.Fatalf("Pending behind %d writes: %v", i+1, d.Pending())
		}
		reads(t, d, w.At, w.Data)
	}
	answers(t, "Flush", d.Flush(), api.OK)
	want := make([]api.Sector, 64)
	want[0], want[3], want[4], want[63] = y, z, z, x
	if !slices.Equal(d.Durable(), want) || !slices.Equal(d.Sectors(), want) || len(d.Pending()) != 0 {
		t.Error("the flush had others last")
	}
	answers(t, "Flush of nothing", d.Flush(), api.OK)
	if !slices.Equal(d.Durable(), want) {
		t.Error("a flush of nothing changed what lasts")
	}
	acts(t, d, 6, 6, 2)
}

// P5.2, P5.3: of all places those of the disk alone, and what is refused changes nothing.
func TestPlacesOutsideAreRefused(t *testing.T) {
	for _, n := range []int{64, 1024} {
		d := made(t, some(1, n))
		d.Write(7, x)
		before := told(d)
		for _, at := range []int{-1, -2, -64, math.MinInt, n, n + 1, 2 * n, math.MaxInt, 1 << 32, 1<<32 + 3} {
			answers(t, "Write outside", d.Write(at, x), api.ErrSector)
			unread(t, d, at, api.ErrSector)
		}
		if !told(d).is(before) {
			t.Error("a refused place changed the device")
		}
		for at := range n {
			answers(t, "Write inside", d.Write(at, y), api.OK)
			reads(t, d, at, y)
		}
	}
}

// P5.4: k more writes and flushes are done, whichever they are; the one behind them finds it down.
func TestStopBehindSoManyActs(t *testing.T) {
	for k := range 12 {
		for flushEach := 1; flushEach < 4; flushEach++ {
			d := blank(t)
			d.Stop(k)
			for i := range k {
				if i%flushEach == flushEach-1 {
					answers(t, "Flush ahead of the stop", d.Flush(), api.OK)
				} else {
					answers(t, "Write ahead of the stop", d.Write(i, x), api.OK)
				}
				reads(t, d, 0, d.Sectors()[0])
				if d.Down() {
					t.Fatalf("Stop(%d): down behind %d acts", k, i+1)
				}
			}
			last := d.Copy()
			before := told(d)
			answers(t, "Write at the stop", d.Write(0, y), api.ErrDown)
			answers(t, "Flush at the stop", last.Flush(), api.ErrDown)
			before.down = true
			if !told(d).is(before) || !told(last).is(before) {
				t.Fatalf("Stop(%d): the act behind it did more than to find it down", k)
			}
		}
	}
}

// P5.2, P5.3, P5.6: the third example.
func TestDownDeviceDoesNothing(t *testing.T) {
	d := blank(t)
	d.Stop(1)
	answers(t, "Write", d.Write(5, x), api.OK)
	if d.Down() {
		t.Error("down by the last act that is done")
	}
	answers(t, "Flush", d.Flush(), api.ErrDown)
	before := told(d)
	if !d.Down() || before.sectors[5] != x || before.durable[5] != (api.Sector{}) || len(before.pending) != 1 {
		t.Error("a device that went down tells others")
	}
	for _, at := range []int{5, 0, -1, 64, math.MaxInt} {
		unread(t, d, at, api.ErrDown)
		answers(t, "Write of a device that is down", d.Write(at, y), api.ErrDown)
	}
	answers(t, "Flush of a device that is down", d.Flush(), api.ErrDown)
	if !told(d).is(before) {
		t.Error("a device that is down was changed")
	}
	d.Restart(true)
	if d.Down() || d.Durable()[5] != x || len(d.Pending()) != 0 {
		t.Error("Restart(true)")
	}
	acts(t, d, 0, 1, 0)
	answers(t, "Write behind the restart", d.Write(6, y), api.OK)
	answers(t, "Flush behind the restart", d.Flush(), api.OK)
	reads(t, d, 6, y)
}

// P5.4: the fourth example; only a write or a flush that could be done is counted.
func TestStopIsMetByWritesAndFlushesAlone(t *testing.T) {
	d := blank(t)
	d.Stop(0)
	if d.Down() {
		t.Error("down by Stop alone")
	}
	for range 3 {
		reads(t, d, 0, api.Sector{})
		unread(t, d, 64, api.ErrSector)
		answers(t, "Write(99)", d.Write(99, x), api.ErrSector)
	}
	if d.Down() {
		t.Error("down by a read, or by a write outside")
	}
	answers(t, "Write(0)", d.Write(0, x), api.ErrDown)
	if !d.Down() || len(d.Pending()) != 0 {
		t.Error("not down by a write, or the write is pending")
	}
	d.Restart()
	d.Stop(2)
	for range 3 {
		reads(t, d, 0, api.Sector{})
		answers(t, "Write(-1)", d.Write(-1, x), api.ErrSector)
	}
	answers(t, "the first act", d.Write(0, x), api.OK)
	answers(t, "the second act", d.Flush(), api.OK)
	answers(t, "the third act", d.Flush(), api.ErrDown)
	acts(t, d, 6, 1, 1)
}

// P5.4: a later Stop takes the earlier one's place.
func TestStopsFollowEachOther(t *testing.T) {
	for _, none := range []int{-1, -2, -64, math.MinInt} {
		d := blank(t)
		d.Stop(1)
		d.Stop(none)
		for range 20 {
			answers(t, "Write without a stop", d.Write(0, x), api.OK)
		}
		d.Stop(0)
		answers(t, "Write at a stop", d.Write(0, x), api.ErrDown)
	}
	d := blank(t)
	d.Stop(0)
	d.Stop(2)
	answers(t, "the first act", d.Write(0, x), api.OK)
	d.Stop(1)
	answers(t, "the next act", d.Write(0, x), api.OK)
	answers(t, "the one behind it", d.Write(0, x), api.ErrDown)
	d = blank(t)
	d.Stop(math.MaxInt)
	for range 20 {
		answers(t, "Write far ahead of a stop", d.Write(0, x), api.OK)
	}
	d.Stop(0)
	answers(t, "Flush at a stop", d.Flush(), api.ErrDown)
}

// P5.4: of a device that is down Stop has no effect, and Restart leaves no stop.
func TestStopOfADownDevice(t *testing.T) {
	for _, k := range []int{math.MinInt, -1, 0, 1, 5, math.MaxInt} {
		d := blank(t)
		d.Stop(0)
		answers(t, "Flush", d.Flush(), api.ErrDown)
		before := told(d)
		d.Stop(k)
		answers(t, "Flush behind Stop", d.Flush(), api.ErrDown)
		answers(t, "Write behind Stop", d.Write(0, x), api.ErrDown)
		unread(t, d, 0, api.ErrDown)
		if !told(d).is(before) {
			t.Errorf("Stop(%d) has an effect on a device that is down", k)
		}
		d.Restart()
		for range 20 {
			answers(t, "Write behind Restart", d.Write(0, x), api.OK)
		}
	}
}

// P5.5: the second example and the other ways in which its writes may last.
func TestRestartHasSomeWritesLast(t *testing.T) {
	o := api.Sector{}
	for _, c := range []struct {
		lasts       []bool
		three, four api.Sector
	}{
		{nil, x, o},
		{[]bool{}, x, o},
		{[]bool{true}, y, o},
		{[]bool{true, false}, y, o},
		{[]bool{true, true}, y, z},
		{[]bool{false, true}, x, z},
		{[]bool{false, true, false}, x, z},
		{[]bool{false, false, true}, z, o},
		{[]bool{true, false, true}, z, o},
		{[]bool{true, true, false, true}, y, z},
		{[]bool{true, true, true, false}, z, z},
		{[]bool{false, false, false, true, true, true}, x, o},
	} {
		for _, down := range []bool{false, true} {
			d := blank(t)
			d.Write(3, x)
			d.Flush()
			d.Write(3, y)
			d.Write(4, z)
			d.Write(3, z)
			reads(t, d, 3, z)
			d.Stop(0)
			if down {
				answers(t, "Flush", d.Flush(), api.ErrDown)
			}
			d.Restart(c.lasts...)
			want := make([]api.Sector, 64)
			want[3], want[4] = c.three, c.four
			if !told(d).is(state{n: 64, sectors: want, durable: want, reads: 1, writes: 4, flushes: 1}) {
				t.Errorf("Restart(%v), down %v: other sectors", c.lasts, down)
			}
			answers(t, "Write behind Restart", d.Write(9, x), api.OK)
			answers(t, "Flush behind Restart", d.Flush(), api.OK)
			if l := d.Durable(); l[3] != c.three || l[4] != c.four || l[9] != x {
				t.Errorf("Restart(%v), down %v: what was lost lasts behind a flush", c.lasts, down)
			}
		}
	}
}

// P5.6
func TestCopyGoesOnAlone(t *testing.T) {
	d := made(t, some(2, 64))
	for i := range 5 {
		d.Write(i, x)
	}
	d.Read(0)
	d.Stop(3)
	c := d.Copy()
	before := told(d)
	if !told(c).is(before) {
		t.Fatal("a copy tells others")
	}
	// Both append behind the same five: neither may see the other's.
	answers(t, "Write", d.Write(9, y), api.OK)
	answers(t, "Write of the copy", c.Write(9, z), api.OK)
	reads(t, d, 9, y)
	reads(t, c, 9, z)
	answers(t, "Flush", d.Flush(), api.OK)
	if l := c.Durable(); l[0] == x || l[9] == y || len(c.Pending()) != 6 {
		t.Error("a flush is seen by the copy")
	}
	answers(t, "the third act", d.Write(0, y), api.OK)
	answers(t, "the fourth act", d.Flush(), api.ErrDown)
	if c.Down() {
		t.Error("the copy went down too")
	}
	answers(t, "the copy's second act", c.Flush(), api.OK)
	answers(t, "the copy's third act", c.Flush(), api.OK)
	answers(t, "the copy's fourth act", c.Flush(), api.ErrDown)
	acts(t, d, 2, 7, 1)
	acts(t, c, 2, 6, 2)
	e := c.Copy()
	if !e.Down() {
		t.Error("a copy of a device that is down is up")
	}
	c.Restart()
	if !e.Down() {
		t.Error("a restart has the copy up")
	}
}

// model is a device as the chapter's words have it, in the plainest way.
type model struct {
	now, durable           []api.Sector
	pending                []api.Write
	down                   bool
	stop                   int
	reads, writes, flushes int
}

func (m *model) copy() *model {
	c := *m
	c.now, c.durable, c.pending = slices.Clone(m.now), slices.Clone(m.durable), slices.Clone(m.pending)
	return &c
}

func (m *model) told() state {
	return state{len(m.now), m.down, m.now, m.durable, m.pending, m.reads, m.writes, m.flushes}
}

func (m *model) read(at int) (api.Sector, api.Errno) {
	if m.down {
		return api.Sector{}, api.ErrDown
	}
	if at < 0 || at >= len(m.now) {
		return api.Sector{}, api.ErrSector
	}
	m.reads++
	return m.now[at], api.OK
}

func (m *model) write(at int, s api.Sector) api.Errno {
	switch {
	case m.down:
		return api.ErrDown
	case at < 0 || at >= len(m.now):
		return api.ErrSector
	case m.stop == 0:
		m.down = true
		return api.ErrDown
	}
	m.stop--
	m.writes++
	m.now[at] = s
	m.pending = append(m.pending, api.Write{At: at, Data: s})
	return api.OK
}

func (m *model) flush() api.Errno {
	if m.down || m.stop == 0 {
		m.down = true
		return api.ErrDown
	}
	m.stop--
	m.flushes++
	m.durable, m.pending = slices.Clone(m.now), nil
	return api.OK
}

func (m *model) restart(lasts []bool) {
	for i := 0; i < len(m.pending) && i < len(lasts); i++ {
		if lasts[i] {
			m.durable[m.pending[i].At] = m.pending[i].Data
		}
	}
	m.now, m.pending, m.down, m.stop = slices.Clone(m.durable), nil, false, -1
}

// P5.1 to P5.7: any calls, one behind the other, of devices and of copies of them.
func TestAnyCallsAreAsTheModelHasThem(t *testing.T) {
	r := rand.New(rand.NewSource(5))
	for range 40 {
		l := some(r.Int63(), 64+r.Intn(30))
		devices := []*device.Device{made(t, l)}
		models := []*model{{now: slices.Clone(l), durable: slices.Clone(l), stop: -1}}
		for range 300 {
			i := r.Intn(len(devices))
			d, m := devices[i], models[i]
			at := r.Intn(12) - 1
			if r.Intn(10) == 0 {
				at = len(l) - 2 + r.Intn(4)
			}
			before := d.Durable()
			steady := true
			switch r.Intn(12) {
			case 0, 1, 2, 3:
				s := api.Sector{byte(r.Intn(256)), 63: byte(r.Intn(256))}
				answers(t, "Write", d.Write(at, s), m.write(at, s))
			case 4, 5, 6:
				s, e := d.Read(at)
				if s2, e2 := m.read(at); s != s2 || e != e2 {
					t.Fatalf("Read(%d): %v, %d, want %v, %d", at, s, e, s2, e2)
				}
			case 7:
				answers(t, "Flush", d.Flush(), m.flush())
				steady = false
			case 8:
				k := r.Intn(12) - 3
				d.Stop(k)
				if !m.down {
					m.stop = k
				}
			case 9, 10:
				lasts := make([]bool, r.Intn(8))
				for j := range lasts {
					lasts[j] = r.Intn(2) == 0
				}
				d.Restart(lasts...)
				m.restart(lasts)
				steady = false
			default:
				devices, models = append(devices, d.Copy()), append(models, m.copy())
			}
			// P5.7
			if steady && !slices.Equal(before, d.Durable()) {
				t.Fatal("what lasts was changed by another call than Flush and Restart")
			}
			over := d.Durable()
			for _, w := range d.Pending() {
				over[w.At] = w.Data
			}
			if !slices.Equal(over, d.Sectors()) {
				t.Fatal("Sectors is not what lasts with the pending writes over it")
			}
			for j := range devices {
				if !told(devices[j]).is(models[j].told()) {
					t.Fatalf("device %d of %d tells others", j, len(devices))
				}
			}
		}
	}
}

// DOC P1
func TestNilDevice(t *testing.T) {
	var d *device.Device
	d.Stop(0)
	d.Restart(true, false)
	d.Restart()
	answers(t, "Write", d.Write(0, x), api.OK)
	answers(t, "Flush", d.Flush(), api.OK)
	for _, at := range []int{0, -1, 64, math.MaxInt} {
		unread(t, d, at, api.OK)
	}
	if !told(d).is(state{}) || d.Copy() != nil {
		t.Error("a nil device tells something")
	}
}

// DOC P2
func TestWhatIsHandedInStays(t *testing.T) {
	room := some(3, 70)
	in := slices.Clone(room)
	d := made(t, in[:64])
	more := []bool{true, false, true, false}
	d.Write(0, x)
	d.Write(1, y)
	d.Flush()
	d.Write(2, z)
	d.Restart(more[:1]...)
	if !slices.Equal(in, room) || !slices.Equal(more, []bool{true, false, true, false}) {
		t.Error("what was handed in is changed")
	}
	for i := range in {
		in[i] = api.Sector{7}
	}
	reads(t, d, 0, x)
	reads(t, d, 63, room[63])
	if l := d.Durable(); l[3] != room[3] {
		t.Error("what was handed in is kept")
	}
}

// DOC P2
func TestWhatIsHandedOutIsNewMemory(t *testing.T) {
	d := blank(t)
	d.Write(1, x)
	d.Flush()
	d.Write(2, y)
	d.Write(3, z)
	before := told(d)
	for range 2 {
		sectors, durable, pending := d.Sectors(), d.Durable(), d.Pending()
		for i := range 64 {
			sectors[i], durable[i] = api.Sector{8}, api.Sector{9}
		}
		pending[0] = api.Write{At: 60, Data: x}
		for _, l := range [][]api.Sector{append(sectors, x), append(durable, x)} {
			l[len(l)-1] = y
		}
		pending = append(pending, api.Write{At: 61, Data: x})
		if !told(d).is(before) {
			t.Fatal("the device sees what was written into its answers")
		}
	}
	// What was handed out ahead of a change stays, too.
	d.Write(4, x)
	d.Flush()
	if before.durable[2] != (api.Sector{}) || before.sectors[4] != (api.Sector{}) || len(before.pending) != 2 || before.pending[1] != (api.Write{At: 3, Data: z}) {
		t.Error("an earlier answer sees later writes")
	}
	if l := d.Durable(); l[2] != y || l[3] != z || l[60] != (api.Sector{}) {
		t.Error("others last than were written")
	}
}

// DOC P5
func TestDevicesAreAlone(t *testing.T) {
	l := some(4, 64)
	a, b := made(t, l), made(t, l)
	a.Write(0, x)
	a.Flush()
	a.Write(1, y)
	a.Stop(0)
	a.Flush()
	if !told(b).is(state{n: 64, sectors: l, durable: l}) {
		t.Error("a device sees what another one was told")
	}
	answers(t, "Write", b.Write(1, z), api.OK)
	if a.Sectors()[1] != y {
		t.Error("a device sees what another one was told")
	}
}
