package store_test

import (
	"testing"

	"assay/api"
)

// P19.2, P19.4, P19.5: one key at two and at three slots; the lowest slot has it, wherever the bytes lie.
func TestOneKeyAtSeveralSlots(t *testing.T) {
	holds(t, "1G 5L6", laid{1, live, 30, 70}, laid{5, live, 40, 70})
	holds(t, "1G 5L6", laid{1, live, 40, 70}, laid{5, live, 30, 70})
	holds(t, "1G 5L6", laid{1, live, 30, 70}, laid{5, live, 30, 70})
	holds(t, "0G 3L6 7L6", laid{0, live, 40, 64}, laid{3, live, 30, 64}, laid{7, live, 40, 64})
	s := holds(t, "2G 3L6 4L6", laid{2, live, 40, 128}, laid{3, live, 30, 128}, laid{4, live, 30, 128})
	if at, ok := s.Find(s.Hash(4)); at != 2 || !ok || s.Taken(30) || s.Taken(31) || !s.Taken(40) {
		t.Errorf("Find: %d, %v", at, ok)
	}
}

// P19.5: where both the key and the sectors are a good one's, it is the key that is told.
func TestTheKeyIsToldAheadOfTheSectors(t *testing.T) {
	holds(t, "0G 1L6", laid{0, live, 30, 3}, laid{1, live, 30, 3})
	holds(t, "0G 1G 2L6", laid{0, live, 30, 3}, laid{1, live, 41, 3}, laid{2, live, 40, 3})    // its own sector is free
	holds(t, "0G 1G 2L6", laid{0, live, 30, 65}, laid{1, live, 41, 64}, laid{2, live, 40, 65}) // one of its sectors is slot 1's
}

// P19.2, P19.5: sectors that are shared in full, in part, and one alone, of a lower slot and of a higher one.
func TestSharedSectors(t *testing.T) {
	holds(t, "1G 2L7", laid{1, live, 30, 128}, laid{2, live, 30, 127}) // both
	holds(t, "1G 2L7", laid{1, live, 30, 127}, laid{2, live, 30, 128})
	holds(t, "1G 2L7", laid{1, live, 30, 300}, laid{2, live, 31, 64})  // one within
	holds(t, "1G 2L7", laid{1, live, 31, 64}, laid{2, live, 30, 300})  // one around
	holds(t, "1G 2L7", laid{1, live, 30, 129}, laid{2, live, 32, 129}) // the last one, of which one byte is used
	holds(t, "1G 2L7", laid{1, live, 32, 129}, laid{2, live, 30, 129})
	holds(t, "1G 2G", laid{1, live, 30, 128}, laid{2, live, 32, 129}) // side by side
	holds(t, "1G 2G", laid{1, live, 32, 129}, laid{2, live, 30, 128})
	holds(t, "1G 2L7 3L7", laid{1, live, 30, 256}, laid{2, live, 29, 65}, laid{3, live, 33, 65}) // at both ends
	holds(t, "1G 2G 3L7", laid{1, live, 31, 64}, laid{2, live, 34, 64}, laid{3, live, 30, 400})  // around two
}

// P19.2: an entry of no bytes has no sector that another one could have.
func TestNoBytesAreNowhere(t *testing.T) {
	holds(t, "0G 1G", laid{0, live, 0, 0}, laid{1, live, 29, 64})
	holds(t, "0G 1G 4L6", laid{0, live, 29, 35 * 64}, laid{1, live, 0, 0}, laid{4, live, 0, 0})
	holds(t, "0G 1K8 2K 3L89", laid{0, live, 29, 35 * 64}, laid{1, corrupt, 0, 0}, laid{2, quarantine, 0, 0}, laid{3, corrupt, 0, 0})
}

// P19.2, P19.5: an entry that is not good hides no other one.
func TestChains(t *testing.T) {
	// Slot 1 shares with 0 and is lost: what shares with it alone is good.
	holds(t, "0G 1L7 2G", laid{0, live, 30, 128}, laid{1, live, 31, 128}, laid{2, live, 32, 128})
	holds(t, "0G 1L7 2G 3L7 4G", laid{0, live, 30, 65}, laid{1, live, 31, 65}, laid{2, live, 32, 65}, laid{3, live, 33, 65}, laid{4, live, 34, 65})
	// Slot 1 shares with 0: its key is free for slot 2, whose sectors are its own.
	holds(t, "0G 1L7 2G 3L6", laid{0, live, 30, 70}, laid{1, live, 31, 20}, laid{2, live, 41, 20}, laid{3, live, 31, 20})
	// Slot 1 has the key of 0: its sectors are free for slot 2.
	holds(t, "0G 1L6 2G", laid{0, live, 30, 70}, laid{1, live, 40, 70}, laid{2, live, 41, 5})
	holds(t, "0G 1L6 2G 3L7", laid{0, live, 30, 70}, laid{1, live, 40, 70}, laid{2, live, 40, 71}, laid{3, live, 41, 5})
	// A corrupt one of a lower slot hides neither its key nor its sectors.
	holds(t, "0L78 1G", laid{0, corrupt, 30, 70}, laid{1, live, 30, 70})
	holds(t, "0L78 1G 2L7", laid{0, corrupt, 30, 200}, laid{1, live, 31, 64}, laid{2, live, 30, 65})
	// What is lost by its sectors is in nobody's way in quarantine either.
	holds(t, "0G 1L7 2K8", laid{0, live, 30, 128}, laid{1, live, 31, 128}, laid{2, corrupt, 32, 3})
	holds(t, "0G 1L6 2K8 3L7", laid{0, live, 30, 70}, laid{1, live, 40, 70}, laid{2, corrupt, 40, 70}, laid{3, quarantine, 41, 1})
}

// P19.4, P19.7: a key that an entry only claims hides no entry that has it by right.
func TestAClaimedKeyHidesNothing(t *testing.T) {
	for _, state := range []int{1, 2} {
		d := chanceless()
		key := lay(d, 4, live, 30, 9)
		s := readSlot(d, 4)
		s.State, s.Start = state, 50
		d[12+1] = entryOf(s)
		x := check(t, d)
		want := "1K8 4G"
		if state == 2 {
			want = "1K 4G"
		}
		if at, ok := x.Find(key); at != 4 || !ok || told(x) != want {
			t.Errorf("%d: %d, %v, %s", state, at, ok, told(x))
		}
	}
}

// P19.4: keys that only lost or quarantined entries have are not found, and neither is what their bytes would have as key.
func TestFindOfWhatIsNotGood(t *testing.T) {
	s := holds(t, "0G 1L7 2K 3K8 4L89 5L9 6L6",
		laid{0, live, 30, 128}, laid{1, live, 31, 3}, laid{2, quarantine, 33, 65}, laid{3, corrupt, 35, 65},
		laid{4, corrupt, 37, 65}, laid{5, quarantineWrong, 39, 5}, laid{6, live, 40, 128})
	for slot := range 6 {
		e, _ := s.Entry(slot)
		for _, key := range []api.Digest{e.Key, s.Hash(slot)} {
			if at, ok := s.Find(key); at != 0 || ok != (slot == 0) {
				t.Errorf("a key of slot %d: %d, %v", slot, at, ok)
			}
		}
	}
}
