package store

import (
	"assay/api"
	"assay/sha"
)

// judge tells of each slot what it comes to, but of those that only the quarantine may keep: it answers these, rising.
func (s *Store) judge() []int {
	var others []int
	for slot := range s.slots {
		e, ok := s.Entry(slot)
		if !ok {
			s.slots[slot] = s.unread(slot)
			continue
		}
		hash := sha.Sum(s.image.Bytes(e))
		s.slots[slot].hash = hash
		if e.State == api.Live && hash == e.Key {
			s.admit(slot, e)
		} else {
			others = append(others, slot)
		}
	}
	return others
}

// unread is what a slot without a readable entry comes to: it is free, if its sector is zeros, and else torn.
func (s *Store) unread(slot int) verdict {
	if s.image.Sector(s.image.Geom().Dir+slot) == (api.Sector{}) {
		return verdict{}
	}
	return verdict{state: Lost, wrong: []int{api.FSlot}}
}

// admit makes a live entry with the right key good, if nothing of it is a good one's already.
func (s *Store) admit(slot int, e api.Entry) {
	v := &s.slots[slot]
	v.state = Lost
	if _, same := s.keys[e.Key]; same {
		v.wrong = []int{api.FSame}
		return
	}
	if !s.taken.Take(e.Start, sectors(e)) {
		v.wrong = []int{api.FOver}
		return
	}
	v.state = Good
	s.keys[e.Key] = slot
}

// quarantine keeps of these slots' entries, which rise, as many as there is room for.
func (s *Store) quarantine(others []int) {
	room := s.image.Geom().Room
	for _, slot := range others {
		if s.keep(slot, room > 0) {
			room--
		}
	}
}

// keep keeps an entry, if there is room and its sectors are nobody's, and tells whether it does. What is wrong is gathered rising.
func (s *Store) keep(slot int, room bool) bool {
	v := &s.slots[slot]
	e, _ := s.Entry(slot)
	over := s.meets(e)
	if over {
		v.wrong = append(v.wrong, api.FOver)
	}
	if e.State == api.Live {
		v.wrong = append(v.wrong, api.FCorrupt)
	}
	if !over && !room {
		v.wrong = append(v.wrong, api.FCrowd)
	}
	if over || !room {
		v.state = Lost
		return false
	}
	v.state = Kept
	return s.taken.Take(e.Start, sectors(e))
}

// meets tells whether one of an entry's sectors is a good or a kept one's.
func (s *Store) meets(e api.Entry) bool {
	for i := range sectors(e) {
		if s.taken.Taken(e.Start + i) {
			return true
		}
	}
	return false
}

// sectors is how many sectors an entry has.
func sectors(e api.Entry) int { return (e.Length + api.SectorSize - 1) / api.SectorSize }
