package mend_test

import (
	"fmt"
	"math/rand"
	"strings"
	"testing"

	"assay/api"
)

// layered is a disk of n sectors with a blob that may be a layer.
func layered(t *testing.T, n int) (*disk, api.Digest) {
	d := zeros(t, n)
	return d, d.blob(d.at(7), "layer").Key
}

// P24.3: snapshots that count, with parents that stay, at lower and at higher slots; layers of documents too, whatever these lack.
func TestSnapsThatCount(t *testing.T) {
	for _, n := range sizes() {
		d, key := layered(t, n)
		lacking := d.doc(0, api.Index, api.Desc{Key: nowhere(1), Size: 1}).Key
		last := d.g.Snaps - 1
		want := map[int]api.Snap{
			0: {ID: 7, Parent: 1<<32 - 1, Layer: key}, 1: {ID: 1, Parent: 7, Layer: lacking},
			2: {ID: 1<<16 + 7, Parent: 7, Layer: key}, last: {ID: 1<<32 - 1, Layer: lacking},
		}
		for at, x := range want {
			d.snap(at, x.ID, x.Parent, x.Layer)
		}
		m := d.mended()
		for at := range d.g.Snaps {
			x, ok := m.Snap(at)
			w, counts := want[at]
			if x != w || ok != counts {
				t.Errorf("%d sectors, slot %d: %v, %v", n, at, x, ok)
			}
		}
	}
}

// P24.3: torn snapshots, free ones, and those whose layer is lost, kept, quarantined or nobody's.
func TestSnapsThatDoNotCount(t *testing.T) {
	for _, n := range sizes() {
		d, key := layered(t, n)
		for at, layer := range map[int]api.Digest{0: key, 1: d.corrupt(0, "x").Key, 2: d.quarantine(1, "y").Key, 3: d.blob(2, "z").Key} {
			d.snap(at, uint32(at+1), 0, layer)
		}
		d.tear(d.g.Dir + 2)
		is(t, snapsTold(d.mended()), "0:1<0")
		d.tear(d.g.Snap)
		d.snap(1, 2, 0, nowhere(7))
		d.snap(2, 3, 0, api.Digest{})
		d.l[d.g.Snap+3] = api.Sector{}
		is(t, snapsTold(d.mended()), "")
	}
}

// P24.3: a parent that is nobody's id, or the id of one that doesn't count: torn, without a layer.
func TestParentsThatAreNot(t *testing.T) {
	for _, n := range sizes() {
		d, key := layered(t, n)
		d.snap(0, 5, 6, key)
		d.snap(1, 6, 1<<31, key)
		is(t, snapsTold(d.mended()), "0:5<6,1:6<0")
		d.snap(1, 6, 0, nowhere(1))
		is(t, snapsTold(d.mended()), "0:5<0")
		d.snap(1, 6, 0, key)
		d.tear(d.g.Snap + 1)
		is(t, snapsTold(d.mended()), "0:5<0")
		d.snap(2, 6, 5, key) // another one with that id: now parents lead round, and 5 is the least
		is(t, snapsTold(d.mended()), "0:5<0,2:6<5")
		d.snap(2, 6, 1<<8+5, key) // nobody's id
		is(t, snapsTold(d.mended()), "0:5<6,2:6<0")
	}
}

// P24.3: one id at several slots: the lowest one that counts has it, with its own parent and its own layer.
func TestIDsTwice(t *testing.T) {
	for _, n := range sizes() {
		d, key := layered(t, n)
		other := d.blob(0, "other").Key
		last := d.g.Snaps - 1
		d.snap(0, 5, 0, key)
		d.snap(1, 5, 9, other)
		d.snap(2, 9, 5, key)
		d.snap(last, 5, 0, key)
		is(t, snapsTold(d.mended()), "0:5<0,2:9<5")
		d.snap(0, 5, 0, nowhere(1)) // it doesn't count: the next one does, and parents lead round
		m := d.mended()
		is(t, snapsTold(m), "1:5<0,2:9<5")
		if x, _ := m.Snap(1); x.Layer != other {
			t.Error(x)
		}
		d.tear(d.g.Snap + 1)
		is(t, snapsTold(d.mended()), fmt.Sprintf("2:9<5,%d:5<0", last))
		d.snap(1, 5, 9, nowhere(2))
		d.snap(last, 5, 5, nowhere(3))
		is(t, snapsTold(d.mended()), "2:9<0")
		for at := range d.g.Snaps {
			d.snap(at, 8, 8, key)
		}
		is(t, snapsTold(d.mended()), "0:8<0")
	}
}

// ring lays snapshots with these ids at these slots, each the next one's child and the last one the first one's, and answers what will be told of them, by slot.
func (d *disk) ring(key api.Digest, ids []uint32, slots []int) map[int]string {
	told := map[int]string{}
	for i, id := range ids {
		parent := ids[(i+1)%len(ids)]
		d.snap(slots[i], id, parent, key)
		least := true
		for _, other := range ids {
			least = least && id <= other
		}
		if least {
			parent = 0
		}
		told[slots[i]] = fmt.Sprintf("%d:%d<%d", slots[i], id, parent)
	}
	return told
}

// inOrder is what is told of slots, by rising slots.
func inOrder(told map[int]string) string {
	var l []string
	for _, at := range ofMap(told) {
		l = append(l, told[at])
	}
	return strings.Join(l, ",")
}

// P24.3: cycles of one, of two, of as many as there are, with the least id anywhere; the others lead into them.
func TestCycles(t *testing.T) {
	r := rand.New(rand.NewSource(1))
	for _, n := range sizes() {
		d, key := layered(t, n)
		for _, many := range []int{1, 2, 3, d.g.Snaps - 1, d.g.Snaps} {
			var ids []uint32
			for _, id := range r.Perm(d.g.Snaps) {
				ids = append(ids, uint32(id+1)<<r.Intn(2)*3+1<<20)
			}
			ids = distinct(ids)
			slots := r.Perm(d.g.Snaps)
			told := d.ring(key, ids[:many], slots[:many])
			for i := many; i < d.g.Snaps; i++ { // behind the cycle, in a chain
				d.snap(slots[i], ids[i], ids[i-1], key)
				told[slots[i]] = fmt.Sprintf("%d:%d<%d", slots[i], ids[i], ids[i-1])
			}
			is(t, snapsTold(d.mended()), inOrder(told))
		}
	}
}

// distinct is numbers of which none stands twice: the later one of two becomes another.
func distinct(l []uint32) []uint32 {
	seen := map[uint32]int{}
	for i := range l {
		for seen[l[i]] > 0 {
			l[i]++
		}
		seen[l[i]]++
	}
	return l
}

// P24.3: several cycles at once: each loses one parent.
func TestSeveralCycles(t *testing.T) {
	for _, n := range sizes() {
		d, key := layered(t, n)
		told := map[int]string{}
		for at := 0; at+1 < d.g.Snaps; at += 2 { // of two
			for slot, x := range d.ring(key, []uint32{uint32(900 - at), uint32(899 - at)}, []int{at, at + 1}) {
				told[slot] = x
			}
		}
		is(t, snapsTold(d.mended()), inOrder(told))
		for at := range d.g.Snaps { // of one
			for slot, x := range d.ring(key, []uint32{uint32(at + 1)}, []int{at}) {
				told[slot] = x
			}
		}
		is(t, snapsTold(d.mended()), inOrder(told))
	}
	d, key := layered(t, 256)
	d.snap(0, 30, 20, key)
	d.snap(1, 20, 30, key)
	d.snap(2, 7, 7, key)
	d.snap(3, 12, 11, key)
	d.snap(4, 11, 13, key)
	d.snap(5, 13, 12, key)
	d.snap(15, 1, 30, key) // behind a cycle, and less than all of it
	is(t, snapsTold(d.mended()), "0:30<20,1:20<0,2:7<0,3:12<11,4:11<0,5:13<12,15:1<30")
	d.snap(5, 13, 12, nowhere(1)) // no cycle: 11 has lost its parent, and 12 stays
	is(t, snapsTold(d.mended()), "0:30<20,1:20<0,2:7<0,3:12<11,4:11<0,15:1<30")
	d.snap(4, 11, 30, key)
	is(t, snapsTold(d.mended()), "0:30<20,1:20<0,2:7<0,3:12<11,4:11<30,15:1<30")
}

// P24.3: an id that stands twice is the lower slot's, and so is its parent: a cycle by way of the higher one is none.
func TestCyclesOfIDsTwice(t *testing.T) {
	d, key := layered(t, 64)
	d.snap(0, 5, 7, key)
	d.snap(1, 7, 0, key)
	d.snap(2, 7, 5, key)
	is(t, snapsTold(d.mended()), "0:5<7,1:7<0")
	d.snap(1, 7, 0, nowhere(1))
	is(t, snapsTold(d.mended()), "0:5<0,2:7<5")
}
