package forest_test

import (
	"slices"
	"strconv"
	"strings"
	"testing"

	"assay/api"
	"assay/forest"
)

// rows reads rows as the chapter writes them: id parent, with a minus sign where the layer isn't there; and with an x where the slot holds no snapshot.
func rows(text string) []forest.Row {
	var l []forest.Row
	for part := range strings.SplitSeq(text, ",") {
		words := strings.Fields(part)
		if len(words) == 0 {
			continue
		}
		r := forest.Row{There: !strings.Contains(part, "x"), Layer: !strings.Contains(part, "-")}
		r.Snap = api.Snap{ID: number(words[0]), Parent: number(strings.TrimRight(words[1], "x-"))}
		r.Snap.Layer[0] = byte(len(l)) // a snapshot's layer is nobody's business here
		l = append(l, r)
	}
	return l
}

// snaps reads snapshots, likewise.
func snaps(text string) []api.Snap { return all(rows(text)) }

// number is a text's number.
func number(text string) uint32 {
	v, err := strconv.ParseUint(text, 10, 32)
	if err != nil {
		panic(err)
	}
	return uint32(v)
}

// all is the snapshots of rows, whatever these are.
func all(l []forest.Row) []api.Snap {
	var snaps []api.Snap
	for _, r := range l {
		snaps = append(snaps, r.Snap)
	}
	return snaps
}

// standing is snapshots as rows, all there with their layers.
func standing(l []api.Snap) []forest.Row {
	var rows []forest.Row
	for _, s := range l {
		rows = append(rows, forest.Row{There: true, Layer: true, Snap: s})
	}
	return rows
}

// same tells whether two answers are the same.
func same(a, b forest.Forest) bool {
	return slices.Equal(a.Kept, b.Kept) && slices.Equal(a.Parent, b.Parent) && slices.Equal(a.Twice, b.Twice) &&
		slices.Equal(a.NoLayer, b.NoLayer) && slices.Equal(a.NoParent, b.NoParent) && slices.Equal(a.Cycles, b.Cycles)
}

// reading is P21.1 read once more, slot by slot: each question is asked of all rows anew.
type reading struct {
	rows []forest.Row
	kept []bool
	up   []int // the slot of a kept one's parent, if that one is kept too; else -1
}

// read is the reading of some rows.
func read(l []forest.Row) reading {
	m := reading{rows: l, kept: make([]bool, len(l)), up: make([]int, len(l))}
	for slot := range l {
		m.kept[slot] = m.counts(slot) && !m.lower(slot)
	}
	for slot, r := range l {
		m.up[slot] = slices.IndexFunc(l, func(o forest.Row) bool { return r.Snap.Parent != 0 && o.Snap.ID == r.Snap.Parent && o.There && o.Layer })
		if !m.kept[slot] {
			m.up[slot] = -1
		}
	}
	return m
}

// counts tells whether a row is there with its layer.
func (m reading) counts(slot int) bool {
	r := m.rows[slot]
	return r.There && r.Layer && r.Snap.ID > 0
}

// lower tells whether a lower row that is there with its layer has the id of this one.
func (m reading) lower(slot int) bool {
	for i := range slot {
		if m.counts(i) && m.rows[i].Snap.ID == m.rows[slot].Snap.ID {
			return true
		}
	}
	return false
}

// cycle is the slots of the cycle that a slot is in, from it on; none, if it is in none.
func (m reading) cycle(slot int) []int {
	l := []int{slot}
	for at := m.up[slot]; at != slot; at = m.up[at] {
		if at < 0 || len(l) > len(m.rows) {
			return nil
		}
		l = append(l, at)
	}
	return l
}

// first tells whether a slot has the least id of its cycle.
func (m reading) first(slot int) bool {
	l := m.cycle(slot)
	return len(l) > 0 && !slices.ContainsFunc(l, func(i int) bool { return m.rows[i].Snap.ID < m.rows[slot].Snap.ID })
}

// forest is the answer.
func (m reading) forest() forest.Forest {
	f := forest.Forest{Kept: m.kept, Parent: make([]uint32, len(m.rows))}
	for slot, r := range m.rows {
		switch {
		case !r.There || r.Snap.ID == 0:
		case !r.Layer:
			f.NoLayer = append(f.NoLayer, slot)
		case !m.kept[slot]:
			f.Twice = append(f.Twice, slot)
		case r.Snap.Parent != 0 && m.up[slot] < 0:
			f.NoParent = append(f.NoParent, slot)
		case m.first(slot):
			f.Cycles = append(f.Cycles, slot)
		default:
			f.Parent[slot] = r.Snap.Parent
		}
	}
	return f
}

// rooted is P21.2 read once more: whoever's parent is none, or has been struck out, is struck out, till nobody is left or nobody can be.
func rooted(l []api.Snap) bool {
	ids := map[uint32]int{}
	for _, s := range l {
		ids[s.ID]++
	}
	if ids[0] > 0 || len(ids) < len(l) {
		return false
	}
	struck := map[uint32]struct{}{0: {}}
	for range l {
		for _, s := range l {
			if _, ok := struck[s.Parent]; ok {
				struck[s.ID] = struct{}{}
			}
		}
		if len(struck) == len(l)+1 {
			break
		}
	}
	return len(struck) == len(l)+1
}

// check holds what is told of rows against the reading, and against P21.2 to P21.4.
func check(t *testing.T, l []forest.Row) forest.Forest {
	t.Helper()
	f, m := forest.Of(l), read(l)
	if want := m.forest(); !same(f, want) {
		t.Fatalf("of %v: %+v, but %+v is asked", l, f, want)
	}
	checkShape(t, l, f)
	checkKept(t, l, f)
	checkCycles(t, m, f)
	checkIs(t, all(l))
	return f
}

// rises tells whether slots of n rows rise.
func rises(l []int, n int) bool {
	last := -1
	for _, slot := range l {
		if slot <= last || slot >= n {
			return false
		}
		last = slot
	}
	return true
}

// checkShape: Kept and Parent have one element a row, the lists rise, and what isn't kept has no parent.
func checkShape(t *testing.T, l []forest.Row, f forest.Forest) {
	t.Helper()
	if len(f.Kept) != len(l) || len(f.Parent) != len(l) {
		t.Fatalf("of %d rows: %d and %d", len(l), len(f.Kept), len(f.Parent))
	}
	for _, slots := range [][]int{f.Twice, f.NoLayer, f.NoParent, f.Cycles} {
		if !rises(slots, len(l)) {
			t.Fatalf("of %v: %v", l, slots)
		}
	}
	for slot, kept := range f.Kept {
		if !kept && f.Parent[slot] != 0 {
			t.Fatalf("of %v: slot %d has the parent %d", l, slot, f.Parent[slot])
		}
	}
}

// left is the snapshots that are kept, with their parents as they will be.
func left(l []forest.Row, f forest.Forest) []api.Snap {
	var kept []api.Snap
	for slot, r := range l {
		if f.Kept[slot] {
			kept = append(kept, api.Snap{ID: r.Snap.ID, Parent: f.Parent[slot], Layer: r.Snap.Layer})
		}
	}
	return kept
}

// checkKept is P21.3: what is left is a forest, all of it is kept once more, and nothing is found.
func checkKept(t *testing.T, l []forest.Row, f forest.Forest) {
	t.Helper()
	kept := left(l, f)
	if !forest.Is(kept) || !rooted(kept) {
		t.Fatalf("of %v is left what is no forest: %v", l, kept)
	}
	checkNothing(t, kept)
}

// checkNothing: a forest is kept as it is, and nothing is found in it.
func checkNothing(t *testing.T, l []api.Snap) {
	t.Helper()
	f := forest.Of(standing(l))
	if len(f.Twice)+len(f.NoLayer)+len(f.NoParent)+len(f.Cycles) > 0 {
		t.Fatalf("in the forest %v is found: %+v", l, f)
	}
	if again := left(standing(l), f); !slices.Equal(again, l) {
		t.Fatalf("of the forest %v is left %v", l, again)
	}
}

// checkCycles is P21.4: just one of a cycle has lost its parent, and nobody who is in none and whose parent is kept has.
func checkCycles(t *testing.T, m reading, f forest.Forest) {
	t.Helper()
	for slot, r := range m.rows {
		cut := 0
		for _, i := range m.cycle(slot) {
			if f.Parent[i] != m.rows[i].Snap.Parent {
				cut++
			}
		}
		if len(m.cycle(slot)) > 0 && cut != 1 {
			t.Fatalf("of %v: %d parents of the cycle %v are taken away", m.rows, cut, m.cycle(slot))
		}
		if len(m.cycle(slot)) == 0 && m.up[slot] >= 0 && f.Parent[slot] != r.Snap.Parent {
			t.Fatalf("of %v: slot %d has lost its parent, and is in no cycle", m.rows, slot)
		}
	}
}

// checkIs holds what Is tells against the reading, and a forest against P21.3.
func checkIs(t *testing.T, l []api.Snap) bool {
	t.Helper()
	is := forest.Is(l)
	if is != rooted(l) {
		t.Fatalf("Is(%v) is %v", l, is)
	}
	if is {
		checkNothing(t, l)
	}
	return is
}
