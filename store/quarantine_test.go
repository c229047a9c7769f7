package store_test

import (
	"math/rand"
	"slices"
	"testing"

	"assay/api"
	"assay/store"
)

// chanceless is a disk of 64 sectors with any bytes, the same each time, and no entry.
func chanceless() []api.Sector { return noise(rand.New(rand.NewSource(20)), 64) }

// readSlot is the entry of a slot, by the second reading.
func readSlot(l []api.Sector, slot int) api.Entry {
	e, _ := readEntry(l[placesOf(len(l)).dir+slot], len(l))
	return e
}

// P19.2, P19.5: fewer than there is room for, as many, and more; of live and of quarantined ones, in any order of slots.
func TestTheRoom(t *testing.T) {
	for _, n := range sizes() {
		p := placesOf(n)
		for _, many := range []int{p.room - 1, p.room, p.room + 1, p.slots} {
			for _, pattern := range []int{0, 1, 2, 3} {
				l := noise(rand.New(rand.NewSource(int64(n))), n)
				slots := rand.New(rand.NewSource(int64(many))).Perm(p.slots)[:many]
				slices.Sort(slots)
				for k, slot := range slots {
					what := corrupt
					if pattern == 1 || pattern == 2 && k%2 == 0 || pattern == 3 && k >= p.room {
						what = quarantine
					}
					lay(l, slot, what, p.data+slot, 64)
				}
				s := check(t, l)
				for k, slot := range slots {
					want := kept
					if k >= p.room {
						want = lost
					}
					if s.State(slot) != want || slices.Contains(s.Wrong(slot), 9) != (k >= p.room) || s.Taken(p.data+slot) != (k < p.room) {
						t.Fatalf("%d sectors, %d others: slot %d: %d, %v", n, many, slot, s.State(slot), s.Wrong(slot))
					}
				}
			}
		}
	}
}

// P19.2, P19.5: the lower slots go first, be they live or quarantined.
func TestTheLowerSlotsGoFirst(t *testing.T) {
	holds(t, "0K8 1K 2L89 3L9", laid{0, corrupt, 30, 1}, laid{1, quarantineWrong, 31, 1}, laid{2, corrupt, 32, 1}, laid{3, quarantine, 33, 1})
	holds(t, "0K 1K8 2L9 3L89", laid{3, corrupt, 30, 1}, laid{2, quarantineWrong, 31, 1}, laid{1, corrupt, 32, 1}, laid{0, quarantine, 33, 1})
	holds(t, "4K 5K 6L89 7L9", laid{4, quarantine, 30, 1}, laid{5, quarantine, 31, 1}, laid{6, corrupt, 32, 1}, laid{7, quarantine, 33, 1})
}

// P19.2, P19.5: a good one's sectors, of a lower slot and of a higher one, are not kept for another.
func TestGoodOnesGoAheadOfTheQuarantine(t *testing.T) {
	holds(t, "0G 1L78", laid{0, live, 30, 100}, laid{1, corrupt, 31, 1})
	holds(t, "0G 1L7", laid{0, live, 30, 100}, laid{1, quarantine, 31, 1})
	holds(t, "0L78 1G", laid{0, corrupt, 31, 1}, laid{1, live, 30, 100})
	holds(t, "0L7 1G", laid{0, quarantineWrong, 31, 1}, laid{1, live, 30, 100})
	holds(t, "0L7 7G", laid{0, quarantine, 29, 130}, laid{7, live, 31, 100})
	holds(t, "0G 1L7", laid{0, live, 30, 5}, laid{1, quarantine, 30, 5}) // one blob, live and quarantined
	holds(t, "0L7 1G", laid{0, quarantine, 30, 5}, laid{1, live, 30, 5})
	holds(t, "0K 1G", laid{0, quarantine, 30, 5}, laid{1, live, 40, 5}) // one key, other sectors
}

// P19.2, P19.5: a lower kept one's sectors are its own; a lost one's are nobody's, and what is not kept takes no room.
func TestKeptAndLostOnesInQuarantine(t *testing.T) {
	holds(t, "0K8 1L78", laid{0, corrupt, 30, 100}, laid{1, corrupt, 31, 1})
	holds(t, "0K 1L78", laid{0, quarantine, 31, 1}, laid{1, corrupt, 30, 100})
	holds(t, "0K 1L7", laid{0, quarantineWrong, 31, 1}, laid{1, quarantine, 30, 100})
	// Slot 1 is lost by a kept one's sectors: its own others are free, and so is its place.
	holds(t, "0K8 1L78 2K 3L9", laid{0, corrupt, 30, 65}, laid{1, corrupt, 31, 65}, laid{2, quarantine, 32, 1}, laid{3, quarantine, 33, 1})
	// Slot 0 is lost by a good one's sectors, slot 2 would have shared with it.
	holds(t, "0L78 1G 2K8 3K 4L89", laid{0, corrupt, 30, 65}, laid{1, live, 30, 1}, laid{2, corrupt, 31, 65}, laid{3, quarantine, 33, 1}, laid{4, corrupt, 34, 1})
	// Slot 2 found no room: slot 3, with its sectors, is told to find none either.
	holds(t, "0K8 1K 2L89 3L9", laid{0, corrupt, 30, 1}, laid{1, quarantine, 31, 1}, laid{2, corrupt, 32, 65}, laid{3, quarantine, 33, 65})
}

// P19.5: where there is no room and the sectors are another's, it is the sectors that are told.
func TestSectorsAreToldAheadOfTheRoom(t *testing.T) {
	holds(t, "0K8 1K 2L78 3L7 4L89", laid{0, corrupt, 30, 1}, laid{1, quarantine, 31, 1}, laid{2, corrupt, 29, 65}, laid{3, quarantine, 31, 1}, laid{4, corrupt, 32, 1})
	holds(t, "0K8 1K 2L78 3L7 7G", laid{0, corrupt, 30, 1}, laid{1, quarantine, 31, 1}, laid{2, corrupt, 33, 65}, laid{3, quarantine, 34, 1}, laid{7, live, 34, 64})
}

// P19.2 to P19.7: each of twelve kinds of slots in each of four places.
func TestEveryFourSlots(t *testing.T) {
	base := chanceless()
	base[40], base[41] = base[30], base[31]
	kinds := []laid{
		{what: 0}, {what: -1},
		{0, live, 30, 65}, {0, live, 31, 1}, {0, live, 41, 1}, {0, live, 40, 65},
		{0, corrupt, 30, 65}, {0, corrupt, 31, 65}, {0, corrupt, 0, 0},
		{0, quarantine, 30, 1}, {0, quarantine, 32, 1}, {0, quarantineWrong, 0, 0},
	}
	lay4 := func(set int) []api.Sector {
		l := slices.Clone(base)
		for slot := range 4 {
			x := kinds[set%len(kinds)]
			set /= len(kinds)
			switch x.what {
			case 0:
			case -1:
				l[12+slot] = api.Sector{5: 1}
			default:
				lay(l, slot, x.what, x.start, x.length)
			}
		}
		return l
	}
	all := 1
	for range 4 {
		all *= len(kinds)
	}
	for set := range all {
		checkShort(t, lay4(set))
	}
}

// checkShort holds the slots, the keys and what follows against the second reading.
func checkShort(t *testing.T, l []api.Sector) {
	t.Helper()
	s := store.Of(imageOf(t, l))
	all := reading(l)
	for i, x := range all {
		if s.State(i) != x.state || !slices.Equal(s.Wrong(i), x.wrong) {
			t.Fatalf("slot %d: %s, want %d, %v", i, told(s), x.state, x.wrong)
		}
	}
	checkKeys(t, s, all)
	checkWhatFollows(t, s)
}
