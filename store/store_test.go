package store_test

import (
	"crypto/sha256"
	"encoding/binary"
	"hash/crc32"
	"math/rand"
	"slices"
	"strconv"
	"strings"
	"testing"

	"assay/api"
	"assay/store"
)

// sizes is disks of the least and the greatest size, and of some between: at the edges of the number of slots, and of the quarantine's room.
func sizes() []int {
	return []int{64, 65, 71, 72, 95, 96, 127, 128, 240, 321, 480, 481, 512, 960, 961, 1000, 1016, 1023, 1024}
}

// noise is a disk of n sectors whose directory and mark are empty, and that holds any bytes else.
func noise(r *rand.Rand, n int) []api.Sector {
	l := make([]api.Sector, n)
	for i := range l {
		r.Read(l[i][:])
	}
	l[2] = api.Sector{}
	p := placesOf(n)
	clear(l[p.dir : p.dir+p.slots])
	return l
}

// bytesAt is what stands on a disk from a sector on.
func bytesAt(l []api.Sector, start, length int) []byte {
	var b []byte
	for i := range length {
		b = append(b, l[start+i/64][i%64])
	}
	return b
}

// entryOf is the sector of an entry, right or not; of its numbers the lowest bytes.
func entryOf(e api.Entry) api.Sector {
	s := api.Sector{0x42, byte(e.State)}
	binary.LittleEndian.PutUint16(s[2:], uint16(e.Start))
	binary.LittleEndian.PutUint16(s[4:], uint16(e.Length))
	copy(s[8:40], e.Key[:])
	return sum(s)
}

// What an entry is that is laid.
const (
	live            = 1 // with the right key
	quarantine      = 2 // with the right key
	wrong           = 4 // beside one of them: with another key
	corrupt         = 1 | wrong
	quarantineWrong = 2 | wrong
)

// lay lays an entry of what stands from a sector on; its key is that of these bytes, or a wrong one of its own.
func lay(l []api.Sector, slot, what, start, length int) api.Digest {
	key := api.Digest(sha256.Sum256(bytesAt(l, start, length)))
	if what&wrong != 0 {
		key[slot%32] ^= 1 << (slot % 8)
	}
	l[placesOf(len(l)).dir+slot] = entryOf(api.Entry{State: what &^ wrong, Start: start, Length: length, Key: key})
	return key
}

// tear spoils a slot's sector.
func tear(l []api.Sector, slot int) { l[placesOf(len(l)).dir+slot][7] ^= 0x10 }

// commit has a disk's mark tell of these targets, with the sectors that its journal has.
func commit(l []api.Sector, targets ...int) {
	s := api.Sector{0x4A, 0x4D, byte(len(targets))}
	var batch []byte
	for i, at := range targets {
		binary.LittleEndian.PutUint16(s[4+2*i:], uint16(at))
		batch = append(batch, l[3+i][:]...)
	}
	binary.LittleEndian.PutUint32(s[20:], crc32.ChecksumIEEE(batch))
	l[2] = sum(s)
}

// told is a store's slots as a text: of each that is not None its number, its state by a letter, and what is wrong.
func told(s *store.Store) string {
	var l []string
	for i := range s.Slots() {
		if s.State(i) == none {
			continue
		}
		word := strconv.Itoa(i) + string("-GKL"[s.State(i)])
		for _, kind := range s.Wrong(i) {
			word += strconv.Itoa(kind)
		}
		l = append(l, word)
	}
	return strings.Join(l, " ")
}

// laid is an entry that a case lays.
type laid struct{ slot, what, start, length int }

// holds lays entries on a disk of 64 sectors (data from 29 on, room for two in quarantine) and holds its slots against a text; of sectors 40 and 41 the bytes are those of 30 and 31.
func holds(t *testing.T, want string, l ...laid) *store.Store {
	t.Helper()
	d := noise(rand.New(rand.NewSource(1)), 64)
	d[40], d[41] = d[30], d[31]
	for _, x := range l {
		lay(d, x.slot, x.what, x.start, x.length)
	}
	s := check(t, d)
	if got := told(s); got != want {
		t.Errorf("%v: %s, want %s", l, got, want)
	}
	return s
}

// P19.2, P19.5: the chapter's examples.
func TestTheChaptersExamples(t *testing.T) {
	holds(t, "0G 1K8", laid{0, live, 30, 3}, laid{1, corrupt, 31, 3})
	holds(t, "1K8 2K8 5L89", laid{1, corrupt, 30, 1}, laid{2, corrupt, 31, 1}, laid{5, corrupt, 32, 1})
	holds(t, "1K8 2K8 5L9", laid{1, corrupt, 30, 1}, laid{2, corrupt, 31, 1}, laid{5, quarantine, 32, 1})
	holds(t, "3G 4L6", laid{3, live, 30, 9}, laid{4, live, 40, 9})
	holds(t, "3G 4L7", laid{3, live, 30, 2}, laid{4, live, 30, 1})
	holds(t, "3L78 4G", laid{3, corrupt, 30, 2}, laid{4, live, 30, 1})
	holds(t, "3K8 4L7", laid{3, corrupt, 30, 2}, laid{4, quarantine, 30, 1})
	holds(t, "2G 6L6", laid{2, live, 0, 0}, laid{6, live, 0, 0})
	d := make([]api.Sector, 64)
	tear(d, 7)
	if got := told(check(t, d)); got != "7L5" {
		t.Error(got)
	}
}

// P19.1: the numbers of the states are the chapter's.
func TestStatesByNumber(t *testing.T) {
	if store.None != none || store.Good != good || store.Kept != kept || store.Lost != lost {
		t.Error(store.None, store.Good, store.Kept, store.Lost)
	}
}

// P19.1, P1: a nil image has no store, and a nil store answers zero values.
func TestNil(t *testing.T) {
	if store.Of(nil) != nil {
		t.Error("of no image")
	}
	var s *store.Store
	if s.Image() != nil || s.Slots() != 0 {
		t.Error(s.Image(), s.Slots())
	}
	for _, i := range around(70) {
		if s.State(i) != none || len(s.Bytes(i)) != 0 || s.Hash(i) != (api.Digest{}) || len(s.Wrong(i)) != 0 || s.Taken(i) {
			t.Errorf("%d: %d, % x, % x, %v, %v", i, s.State(i), s.Bytes(i), s.Hash(i), s.Wrong(i), s.Taken(i))
		}
		if e, ok := s.Entry(i); e != (api.Entry{}) || ok {
			t.Errorf("Entry(%d): %v, %v", i, e, ok)
		}
	}
	for _, key := range []api.Digest{{}, {1}, sha256.Sum256(nil)} {
		if at, ok := s.Find(key); at != 0 || ok {
			t.Errorf("Find: %d, %v", at, ok)
		}
	}
}

// P19.2 to P19.6: disks of zeros, and of noise all over, whose slots are all free or all torn.
func TestZerosAndNoise(t *testing.T) {
	r := rand.New(rand.NewSource(2))
	for _, n := range sizes() {
		s := check(t, make([]api.Sector, n))
		if s.Slots() != n/8 || told(s) != "" {
			t.Errorf("%d sectors of zeros: %d, %s", n, s.Slots(), told(s))
		}
		l := make([]api.Sector, n)
		for i := range l {
			r.Read(l[i][:])
		}
		s = check(t, l)
		for i := range n / 8 {
			if s.State(i) != lost || !slices.Equal(s.Wrong(i), []int{5}) {
				t.Fatalf("%d sectors of noise: %d, %v", n, s.State(i), s.Wrong(i))
			}
		}
	}
}

// P19.2, P19.4: an entry in each slot alone, of every size.
func TestEachSlot(t *testing.T) {
	r := rand.New(rand.NewSource(3))
	for _, n := range sizes() {
		p := placesOf(n)
		for slot := range p.slots {
			l := noise(r, n)
			key := lay(l, slot, live, n-2, 70)
			s := store.Of(imageOf(t, l))
			if at, ok := s.Find(key); at != slot || !ok || s.State(slot) != good || told(s) != strconv.Itoa(slot)+"G" {
				t.Fatalf("%d sectors, slot %d: %d, %v, %s", n, slot, at, ok, told(s))
			}
		}
	}
}

// P19.3, P19.6: entries of every kind of length, at the first and the last data sectors.
func TestLengths(t *testing.T) {
	r := rand.New(rand.NewSource(4))
	for _, n := range []int{64, 128, 481, 1024} {
		p := placesOf(n)
		for _, length := range []int{0, 1, 2, 63, 64, 65, 100, 127, 128, 129, 2048, 35 * 64, 4032, 4033, 4095, 4096} {
			many := (length + 63) / 64
			if many > n-p.data {
				continue
			}
			starts := []int{p.data, n - many}
			if length == 0 {
				starts = []int{0}
			}
			for _, start := range starts {
				for what, want := range map[int]string{live: "2G", corrupt: "2K8", quarantine: "2K", quarantineWrong: "2K"} {
					l := noise(r, n)
					lay(l, 2, what, start, length)
					s := check(t, l)
					if told(s) != want || s.Hash(2) != sha256.Sum256(bytesAt(l, start, length)) || len(s.Bytes(2)) != length {
						t.Errorf("%d sectors, %d bytes from %d on, %d: %s", n, length, start, what, told(s))
					}
				}
			}
		}
	}
}

// P19.3: the SHA-256 of no bytes, where an entry has none; zeros, where there is no entry.
func TestHashOfNoBytes(t *testing.T) {
	s := holds(t, "1G 2K8 3K", laid{1, live, 0, 0}, laid{2, corrupt, 0, 0}, laid{3, quarantine, 0, 0})
	for i := range 8 {
		want := api.Digest{}
		if i >= 1 && i <= 3 {
			want = sha256.Sum256(nil)
		}
		if s.Hash(i) != want || len(s.Bytes(i)) != 0 {
			t.Errorf("slot %d: % x", i, s.Hash(i))
		}
	}
}

// P19.3: an entry is told as the disk has it, whatever it comes to.
func TestEntriesAsTheDiskHasThem(t *testing.T) {
	d := noise(rand.New(rand.NewSource(5)), 64)
	lay(d, 0, corrupt, 30, 10) // is kept, and stays live
	lay(d, 1, quarantine, 31, 10)
	lay(d, 2, quarantineWrong, 32, 10) // finds no room
	lay(d, 3, live, 30, 5)
	d[12+4] = entryOf(api.Entry{State: 1, Start: 28, Length: 1}) // begins in the head
	s := check(t, d)
	if got := told(s); got != "0L78 1K 2K 3G 4L5" {
		t.Fatal(got)
	}
	for i, state := range []int{1, 2, 2, 1, 0} {
		if e, ok := s.Entry(i); e.State != state || ok != (state != 0) {
			t.Errorf("Entry(%d): %v, %v", i, e, ok)
		}
	}
}

// P19.2, P19.5: one bit turned in an entry's sector makes it torn: its bytes, its key, its sectors are nobody's.
func TestTornEntries(t *testing.T) {
	d := noise(rand.New(rand.NewSource(6)), 64)
	key := lay(d, 3, live, 40, 100)
	for i := range 512 {
		l := slices.Clone(d)
		l[12+3][i/8] ^= 1 << (i % 8)
		s := store.Of(imageOf(t, l))
		if told(s) != "3L5" || s.Taken(40) || s.Taken(41) || s.Hash(3) != (api.Digest{}) || len(s.Bytes(3)) != 0 {
			t.Fatalf("the bit %d: %s", i, told(s))
		}
		if at, ok := s.Find(key); at != 0 || ok {
			t.Fatalf("the bit %d: Find: %d, %v", i, at, ok)
		}
	}
}

// P19.2, P19.5: sectors that are sealed and yet no entry's are torn, those that a disk of another size would have too.
func TestSealedAndTorn(t *testing.T) {
	for _, n := range sizes() {
		p := placesOf(n)
		for _, e := range []api.Entry{
			{State: 0, Start: p.data, Length: 1}, {State: 3, Start: p.data, Length: 1}, {State: 1, Start: p.data - 1, Length: 1},
			{State: 1, Start: n, Length: 1}, {State: 2, Start: n - 1, Length: 65}, {State: 1, Start: p.data}, {State: 2, Start: p.data, Length: 4097}, {},
		} {
			l := make([]api.Sector, n)
			l[p.dir+1] = entryOf(e)
			if got := told(check(t, l)); got != "1L5" {
				t.Errorf("%d sectors, %v: %s", n, e, got)
			}
		}
	}
}

// P19.4: the zero digest is found just if a good entry had it as key, which no known bytes give; one that is kept does not count.
func TestFindOfTheZeroDigest(t *testing.T) {
	d := noise(rand.New(rand.NewSource(7)), 64)
	d[12] = entryOf(api.Entry{State: 1, Start: 30, Length: 5})
	d[13] = entryOf(api.Entry{State: 2, Start: 31, Length: 5})
	lay(d, 5, live, 32, 5)
	s := check(t, d)
	if at, ok := s.Find(api.Digest{}); at != 0 || ok || told(s) != "0K8 1K 5G" {
		t.Errorf("%d, %v, %s", at, ok, told(s))
	}
}

// P19.1 to P19.6: of a committed mark the batch is what the slots and their bytes are; of one that is rubbish it isn't.
func TestBehindTheReplay(t *testing.T) {
	d := noise(rand.New(rand.NewSource(8)), 64)
	key := lay(d, 0, live, 30, 100)
	lay(d, 1, live, 40, 64)
	lay(d, 6, quarantine, 50, 64)
	other := lay(d, 7, live, 60, 64)
	d[3] = d[12+7] // slot 7's entry comes to slot 1
	d[4] = api.Sector{}
	d[5] = d[32] // other bytes for slot 0
	commit(d, 12+1, 12+7, 30)
	s := check(t, d)
	if got := told(s); got != "0K8 1G 6K" {
		t.Error(got)
	}
	if at, ok := s.Find(other); at != 1 || !ok || s.Taken(40) || !s.Taken(60) {
		t.Error(at, ok)
	}
	if at, ok := s.Find(key); at != 0 || ok {
		t.Error(at, ok)
	}
	d[2][30] ^= 1
	s = check(t, d)
	if got := told(s); got != "0G 1G 6K 7G" {
		t.Error(got)
	}
}
