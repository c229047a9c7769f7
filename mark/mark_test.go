package mark_test

import (
	"encoding/binary"
	"hash/crc32"
	"math"
	"math/rand"
	"slices"
	"testing"

	"assay/api"
	"assay/mark"
)

// sum is the sector with the library's sum of its first 60 bytes behind them.
func sum(s api.Sector) api.Sector {
	binary.LittleEndian.PutUint32(s[60:], crc32.ChecksumIEEE(s[:60]))
	return s
}

// told is a mark as the chapter tells it, of a count and targets that may be a batch's or not, and of the sectors whose sum it holds.
func told(k int, targets []int, journal []api.Sector) api.Sector {
	s := api.Sector{0x4A, 0x4D, byte(k)}
	for i, at := range targets {
		s[4+2*i] = byte(at % 256)
		s[5+2*i] = byte(at / 256)
	}
	var all []byte
	for _, j := range journal {
		all = append(all, j[:]...)
	}
	binary.LittleEndian.PutUint32(s[20:], crc32.ChecksumIEEE(all))
	return sum(s)
}

// isBatch says it as the chapter does.
func isBatch(targets []int, n int) bool {
	if len(targets) == 0 || len(targets) > 8 {
		return false
	}
	last := -1
	for _, at := range targets {
		if at <= last || at >= n || at >= 2 && at <= 10 {
			return false
		}
		last = at
	}
	return true
}

// filled is k sectors by chance, the same for the same seed.
func filled(k int, seed int64) []api.Sector {
	r := rand.New(rand.NewSource(seed))
	l := make([]api.Sector, k)
	for i := range l {
		r.Read(l[i][:])
	}
	return l
}

// writes is the sectors as writes to the targets; those that there aren't are zeros.
func writes(targets []int, sectors []api.Sector) []api.Write {
	var l []api.Write
	for i, at := range targets {
		w := api.Write{At: at}
		if i < len(sectors) {
			w.Data = sectors[i]
		}
		l = append(l, w)
	}
	return l
}

// turned is the sector with the bits of a pattern turned, the pattern's lowest one at a bit of its 512; bits behind the last are left out.
func turned(s api.Sector, from int, pattern uint32) api.Sector {
	for i := range 32 {
		if pattern>>i&1 == 1 && from+i < 512 {
			s[(from+i)/8] ^= 1 << ((from + i) % 8)
		}
	}
	return s
}

// puts holds a mark that is made against the one that is told, and it against what is read of it.
func puts(t *testing.T, what string, targets []int, sectors []api.Sector, n int) {
	t.Helper()
	l := writes(targets, sectors)
	s, e := mark.Put(l, n)
	if want := told(len(targets), targets, sectors); e != api.OK || s != want {
		t.Fatalf("%s: % x, %d, want % x", what, s, e, want)
	}
	state, got := mark.State(s, sectors, n)
	if state != mark.Committed || !slices.Equal(got, l) {
		t.Fatalf("%s: and back: %d, %v, want %v", what, state, got, l)
	}
}

// refuses holds an answer against the zero sector and an error.
func refuses(t *testing.T, what string, l []api.Write, n int, want api.Errno) {
	t.Helper()
	s, e := mark.Put(l, n)
	if s != (api.Sector{}) || e != want {
		t.Errorf("%s: % x, %d, want zeros, %d", what, s, e, want)
	}
}

// isState holds a state that has no writes against what is answered.
func isState(t *testing.T, what string, s api.Sector, journal []api.Sector, n, want int) {
	t.Helper()
	state, l := mark.State(s, journal, n)
	if state != want || len(l) != 0 {
		t.Errorf("%s: %d, %v, want %d and none", what, state, l, want)
	}
}

// strange is numbers of sectors that no disk has.
func strange() []int {
	return []int{math.MinInt, math.MinInt + 1, -64, -1, 0, 1, 63, 1025, 1 << 16, 1<<16 + 64, 1<<32 + 64, math.MaxInt}
}

// P9.1, P9.2
func TestTheExamples(t *testing.T) {
	one := api.Sector{0x4A, 0x4D, 1, 0, 0x14, 0, 20: 0x36, 0x63, 0x8D, 0x75}
	if s, e := mark.Put([]api.Write{{At: 20}}, 64); e != api.OK || s != sum(one) {
		t.Errorf("one write: % x, %d", s, e)
	}
	for _, targets := range [][]int{{}, {20, 21, 22, 23, 24, 25, 26, 27, 28}, {20, 20}, {21, 20}, {2}, {10}, {64}} {
		refuses(t, "an example", writes(targets, nil), 64, api.ErrBatch)
		refuses(t, "an example with n 63", writes(targets, nil), 63, api.ErrSize)
	}
	refuses(t, "n 63", []api.Write{{At: 20}}, 63, api.ErrSize)
	isState(t, "zeros", api.Sector{}, nil, 64, mark.Empty)
	s := told(1, []int{64}, make([]api.Sector, 1))
	isState(t, "target 64 of 64", s, nil, 64, mark.Rubbish)
	state, l := mark.State(s, nil, 65)
	if state != mark.Committed || !slices.Equal(l, []api.Write{{At: 64}}) {
		t.Errorf("target 64 of 65: %d, %v", state, l)
	}
}

// P9.2: the numbers of the states are the chapter's.
func TestTheStatesNumbers(t *testing.T) {
	if mark.Empty != 1 || mark.Committed != 2 || mark.Rubbish != 3 {
		t.Errorf("%d, %d, %d", mark.Empty, mark.Committed, mark.Rubbish)
	}
}

// P9.1, P9.3: batches of none to many writes, on the least and the greatest disks.
func TestBatchesOfEachLength(t *testing.T) {
	for k := range 20 {
		for _, n := range []int{64, 65, 480, 1023, 1024} {
			var low, high []int
			for i := range k {
				low = append(low, []int{0, 1, 11, 12, 13, 14, 15, 16, 17, 18, 19, 20, 21, 22, 23, 24, 25, 26, 27, 28}[i])
				high = append(high, n-k+i)
			}
			for _, targets := range [][]int{low, high} {
				if k == 0 || k > 8 {
					refuses(t, "a length", writes(targets, filled(k, 1)), n, api.ErrBatch)
					continue
				}
				puts(t, "a length", targets, filled(k, int64(k*n)), n)
				puts(t, "a length, zeros", targets, make([]api.Sector, k), n)
			}
		}
	}
	refuses(t, "very long", make([]api.Write, 1<<16+1), 64, api.ErrBatch)
}

// P9.1, P9.3: each one target of each number of sectors.
func TestOneWriteAnywhere(t *testing.T) {
	data := filled(1, 2)
	for n := 60; n <= 1028; n++ {
		for _, at := range []int{math.MinInt, -1 << 16, -65516, -2, -1, 0, 1, 2, 3, 4, 9, 10, 11, 12, n / 2, n - 2, n - 1, n, n + 1, 1023, 1024, 1025, 1<<16 - 1, 1 << 16, 1<<16 + 20, 1<<32 + 20, math.MaxInt} {
			switch {
			case n < 64 || n > 1024:
				refuses(t, "no disk", writes([]int{at}, data), n, api.ErrSize)
			case !isBatch([]int{at}, n):
				refuses(t, "no target", writes([]int{at}, data), n, api.ErrBatch)
			default:
				puts(t, "a target", []int{at}, data, n)
			}
		}
	}
	for at := -2; at < 1100; at++ {
		if isBatch([]int{at}, 700) {
			puts(t, "of 700", []int{at}, data, 700)
		} else {
			refuses(t, "of 700", writes([]int{at}, data), 700, api.ErrBatch)
		}
	}
}

// P9.1, P9.2: each two targets, told as a mark too where two bytes hold them.
func TestEachTwoTargets(t *testing.T) {
	data := filled(2, 3)
	for a := -1; a <= 66; a++ {
		for b := -1; b <= 66; b++ {
			targets := []int{a, b}
			if isBatch(targets, 65) {
				puts(t, "two", targets, data, 65)
				continue
			}
			refuses(t, "two", writes(targets, data), 65, api.ErrBatch)
			if a >= 0 && b >= 0 {
				isState(t, "two", told(2, targets, data), data, 65, mark.Rubbish)
			}
		}
	}
}

// P9.1, P9.2: eight rising targets with one of them put wrong, at each place.
func TestOneWrongTargetOfEight(t *testing.T) {
	data := filled(8, 4)
	good := []int{0, 1, 20, 30, 40, 50, 60, 63}
	puts(t, "eight", good, data, 64)
	for i := range good {
		for _, at := range []int{0, 1, 2, 3, 5, 10, 11, 20, 30, 40, 50, 60, 63, 64, 65, 256, 1 << 15, 1<<16 - 1} {
			targets := slices.Clone(good)
			targets[i] = at
			if isBatch(targets, 64) {
				puts(t, "one other", targets, data, 64)
				continue
			}
			refuses(t, "one wrong", writes(targets, data), 64, api.ErrBatch)
			isState(t, "one wrong", told(8, targets, data), data, 64, mark.Rubbish)
		}
		targets := slices.Clone(good)
		targets[i] = -1
		refuses(t, "one below zero", writes(targets, data), 64, api.ErrBatch)
	}
}

// P9.1: where the number of sectors is no disk's, that is told first (P4).
func TestPutOfNoDisk(t *testing.T) {
	for _, n := range strange() {
		for _, targets := range [][]int{nil, {20}, {0, 1, 11}, {21, 20}, {2}, {-1}, {1, 1, 1, 1, 1, 1, 1, 1, 1}} {
			refuses(t, "no disk", writes(targets, nil), n, api.ErrSize)
		}
	}
}

// P9.2: of no disk all is rubbish, zeros too.
func TestStateOfNoDisk(t *testing.T) {
	data := filled(3, 5)
	s := told(3, []int{0, 11, 20}, data)
	for _, n := range strange() {
		isState(t, "a mark", s, data, n, mark.Rubbish)
		isState(t, "zeros", api.Sector{}, nil, n, mark.Rubbish)
		isState(t, "zeros with a journal", api.Sector{}, data, n, mark.Rubbish)
		isState(t, "bytes", api.Sector{7: 7}, data, n, mark.Rubbish)
	}
}

// P9.2: a mark of one disk is looked at with each other number of sectors.
func TestStateOfEachNumberOfSectors(t *testing.T) {
	data := filled(2, 6)
	for _, last := range []int{11, 63, 64, 500, 1022, 1023} {
		s := told(2, []int{1, last}, data)
		for n := 50; n < 1050; n++ {
			if n < 64 || n > 1024 || last >= n {
				isState(t, "too few", s, data, n, mark.Rubbish)
				continue
			}
			state, l := mark.State(s, data, n)
			if state != mark.Committed || !slices.Equal(l, writes([]int{1, last}, data)) {
				t.Errorf("target %d of %d: %d, %v", last, n, state, l)
			}
		}
	}
}

// P9.2: zeros are empty, whatever lies in the journal; one bit makes them rubbish.
func TestEmpty(t *testing.T) {
	for n := 64; n <= 1024; n++ {
		isState(t, "no journal", api.Sector{}, nil, n, mark.Empty)
	}
	for k := range 12 {
		isState(t, "a journal", api.Sector{}, filled(k, 7), 64, mark.Empty)
	}
	for i := range 512 {
		isState(t, "one bit", turned(api.Sector{}, i, 1), nil, 64, mark.Rubbish)
		isState(t, "one bit, and its sum", sum(turned(api.Sector{}, i, 1)), nil, 64, mark.Rubbish)
	}
	isState(t, "zeros and their sum", sum(api.Sector{}), nil, 64, mark.Rubbish)
}

// P9.2: journals that are shorter or longer than the batch.
func TestJournalsOfEachLength(t *testing.T) {
	data := filled(12, 8)
	targets := []int{0, 1, 11, 12, 30, 40, 62, 63}
	for k := 1; k <= 8; k++ {
		s := told(k, targets[:k], data[:k])
		for have := range data {
			if have < k {
				isState(t, "too short", s, data[:have], 64, mark.Rubbish)
				continue
			}
			state, l := mark.State(s, data[:have], 64)
			if state != mark.Committed || !slices.Equal(l, writes(targets[:k], data)) {
				t.Errorf("%d of %d: %d, %v", k, have, state, l)
			}
		}
		for full := range k {
			// Those behind the first ones are zeros: whether they are there or not is the same.
			some := make([]api.Sector, 8)
			copy(some, data[:full])
			s := told(k, targets[:k], some[:k])
			for have := full; have <= 8; have++ {
				state, l := mark.State(s, some[:have], 64)
				if state != mark.Committed || !slices.Equal(l, writes(targets[:k], some)) {
					t.Errorf("%d of %d, zeros from %d: %d, %v", k, have, full, state, l)
				}
			}
		}
	}
}

// P9.2: sectors of the journal behind the batch's are not looked at; order and each of the batch's are.
func TestWhichSectorsOfTheJournalCount(t *testing.T) {
	data := filled(9, 9)
	targets := []int{0, 1, 11, 12, 30, 40, 62, 63}
	for k := 1; k <= 8; k++ {
		s := told(k, targets[:k], data[:k])
		for i := range data {
			other := slices.Clone(data)
			other[i][i] ^= 0x10
			if i < k {
				isState(t, "another sector", s, other, 64, mark.Rubbish)
				continue
			}
			state, l := mark.State(s, other, 64)
			if state != mark.Committed || !slices.Equal(l, writes(targets[:k], data)) {
				t.Errorf("%d, the sector %d another: %d, %v", k, i, state, l)
			}
		}
		for i := 1; i < k; i++ {
			other := slices.Clone(data)
			other[i-1], other[i] = other[i], other[i-1]
			isState(t, "two in another order", s, other, 64, mark.Rubbish)
		}
	}
}

// P9.2, P9.3: each byte of a mark with each other value, and its sum right again: what is committed is told by the chapter's words, and is Put of its writes.
func TestEachByteWithItsSum(t *testing.T) {
	data := filled(8, 10)
	for _, k := range []int{1, 2, 3, 7, 8} {
		targets := []int{1, 20, 30, 40, 50, 60, 200, 257}[:k]
		s := told(k, targets, data[:k])
		for at := range 60 {
			for v := range 256 {
				x := s
				x[at] = byte(v)
				x = sum(x)
				state, l := mark.State(x, data, 258)
				other := slices.Clone(targets)
				if at >= 4 && at < 4+2*k {
					i := (at - 4) / 2
					other[i] = int(x[4+2*i]) + 256*int(x[5+2*i])
				}
				right := x == told(k, other, data[:k]) && isBatch(other, 258)
				if right != (state == mark.Committed) || !right && (state != mark.Rubbish || len(l) != 0) {
					t.Fatalf("%d writes, byte %d as %d: %d, %v", k, at, v, state, l)
				}
				if !right {
					continue
				}
				if back, e := mark.Put(l, 258); back != x || e != api.OK || !slices.Equal(l, writes(other, data)) {
					t.Fatalf("%d writes, byte %d as %d: % x, %d", k, at, v, back, e)
				}
			}
		}
	}
}

// P9.2: counts that don't fit the targets, with both sums right for as many sectors as the count says.
func TestCountsThatDontFit(t *testing.T) {
	data := filled(16, 11)
	for k := range 256 {
		for have := range 9 {
			targets := []int{11, 12, 13, 14, 15, 16, 17, 18}[:have]
			s := told(k, targets, data[:min(k, 16)])
			if k == have && k > 0 {
				puts(t, "as many", targets, data[:k], 64)
				continue
			}
			// A target that isn't told is 0, and doesn't rise, but as the first and only one.
			if k == 1 && have == 0 {
				puts(t, "zero", []int{0}, data[:1], 64)
				continue
			}
			isState(t, "another count", s, data[:8], 64, mark.Rubbish)
			isState(t, "another count, a long journal", s, data, 64, mark.Rubbish)
		}
	}
}

// P9.2: a batch of nine, which would reach into the sum's bytes, whatever they are.
func TestNineAreNeverCommitted(t *testing.T) {
	data := filled(9, 12)
	for at := range 1 << 16 {
		s := told(8, []int{11, 12, 13, 14, 15, 16, 17, 18}, nil)
		s[2] = 9
		binary.LittleEndian.PutUint16(s[20:], uint16(at))
		if state, l := mark.State(sum(s), data, 1024); state != mark.Rubbish || len(l) != 0 {
			t.Fatalf("%d: %d, %v", at, state, l)
		}
	}
}

// P9.3: bursts in a mark, from each bit on, of each length.
func TestBurstsInAMark(t *testing.T) {
	r := rand.New(rand.NewSource(13))
	for k := 1; k <= 8; k++ {
		data := filled(k, int64(k))
		s := told(k, []int{0, 1, 11, 12, 30, 40, 62, 63}[:k], data)
		for from := range 512 {
			for long := range 32 {
				pattern := 1 | 1<<long | r.Uint32()&(1<<long-1)
				isState(t, "a burst", turned(s, from, pattern), data, 64, mark.Rubbish)
			}
		}
	}
	// Of a mark of which few bits are 1, so that a burst may leave a target out.
	s := told(1, []int{0}, make([]api.Sector, 1))
	for from := range 512 {
		for long := range 32 {
			isState(t, "a burst of ones", turned(s, from, 1<<(long+1)-1), nil, 64, mark.Rubbish)
			isState(t, "two bits", turned(s, from, 1|1<<long), nil, 64, mark.Rubbish)
		}
	}
}

// P9.3: bursts in each of the journal's sectors.
func TestBurstsInTheJournal(t *testing.T) {
	r := rand.New(rand.NewSource(14))
	for k := 1; k <= 8; k++ {
		data := filled(k, int64(k))
		s := told(k, []int{0, 1, 11, 12, 30, 40, 62, 63}[:k], data)
		for i := range data {
			for from := range 512 {
				pattern := 1 | r.Uint32()>>r.Intn(32)
				other := slices.Clone(data)
				other[i] = turned(other[i], from, pattern)
				isState(t, "a burst", s, other, 64, mark.Rubbish)
			}
		}
	}
}

// P9.3: batches by chance, there and back, on disks of each size.
func TestThereAndBack(t *testing.T) {
	r := rand.New(rand.NewSource(15))
	for n := 64; n <= 1024; n++ {
		may := []int{0, 1}
		for at := 11; at < n; at++ {
			may = append(may, at)
		}
		r.Shuffle(len(may), func(a, b int) { may[a], may[b] = may[b], may[a] })
		targets := may[:1+r.Intn(8)]
		slices.Sort(targets)
		puts(t, "by chance", targets, filled(len(targets), int64(n)), n)
	}
}

// P9.2: sectors by chance, with and without their sum, are rubbish.
func TestAnySector(t *testing.T) {
	data := filled(10, 16)
	for i, s := range filled(2000, 17) {
		isState(t, "bytes", s, data, 64+i%961, mark.Rubbish)
		isState(t, "bytes with their sum", sum(s), data, 64+i%961, mark.Rubbish)
		s[0], s[1], s[2], s[3] = 0x4A, 0x4D, byte(i%10), 0
		isState(t, "bytes behind a mark's first", sum(s), data, 64+i%961, mark.Rubbish)
	}
}

// P2: what is handed in stays, the spare room behind it too.
func TestWhatIsHandedInStays(t *testing.T) {
	data := filled(12, 18)
	room := append(writes([]int{0, 11, 20}, data), api.Write{At: 77, Data: data[5]}, api.Write{At: 78})
	for k := range 4 {
		kept := slices.Clone(room)
		mark.Put(room[:k], 64)
		mark.Put(room[:k], 63)
		if !slices.Equal(room, kept) {
			t.Errorf("writes: %v, were %v", room, kept)
		}
	}
	s := told(3, []int{0, 11, 20}, data[:3])
	for k := range 12 {
		kept := slices.Clone(data)
		mark.State(s, data[:k], 64)
		mark.State(s, data[:k], 63)
		if !slices.Equal(data, kept) {
			t.Errorf("a journal of %d: %v, was %v", k, data, kept)
		}
	}
}

// P2, P3, P5: what is answered is new memory each time, and the same each time.
func TestWhatIsAnsweredIsNew(t *testing.T) {
	data := filled(8, 19)
	targets := []int{0, 1, 11, 12, 30, 40, 62, 63}
	s := told(8, targets, data)
	kept := slices.Clone(data)
	_, first := mark.State(s, data, 64)
	_, second := mark.State(s, data, 64)
	for i := range first {
		first[i] = api.Write{At: -1}
	}
	first = append(first[:3], api.Write{At: 99})
	if !slices.Equal(data, kept) || !slices.Equal(second, writes(targets, kept)) {
		t.Error("writing into an answer is seen elsewhere")
	}
	clear(data)
	if !slices.Equal(second, writes(targets, kept)) {
		t.Error("what was handed in is kept in an answer")
	}
	if state, l := mark.State(s, kept, 64); state != mark.Committed || !slices.Equal(l, second) {
		t.Errorf("asked again: %d, %v", state, l)
	}
}
