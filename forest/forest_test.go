package forest_test

import (
	"testing"

	"assay/forest"
)

// answer is what is told of some rows: who is kept as + and -, the parents, and the lists of slots.
type answer struct {
	rows                             string
	kept                             string
	parent                           []uint32
	twice, noLayer, noParent, cycles []int
}

// forest is the same as a Forest.
func (a answer) forest() forest.Forest {
	f := forest.Forest{Parent: a.parent, Twice: a.twice, NoLayer: a.noLayer, NoParent: a.noParent, Cycles: a.cycles}
	for _, r := range a.kept {
		f.Kept = append(f.Kept, r == '+')
	}
	return f
}

// checkAnswers holds what Of tells against answers that were worked out by hand.
func checkAnswers(t *testing.T, answers []answer) {
	t.Helper()
	for _, a := range answers {
		if f := check(t, rows(a.rows)); !same(f, a.forest()) {
			t.Errorf("of %s: %+v", a.rows, f)
		}
	}
}

type (
	ids   = []uint32
	slots = []int
)

// The chapter's examples.
func TestExamples(t *testing.T) {
	checkAnswers(t, []answer{
		{rows: "5 7, 7 9, 9 5", kept: "+++", parent: ids{0, 9, 5}, cycles: slots{0}},
		{rows: "5 7, 7 9, 9 5-", kept: "++-", parent: ids{7, 0, 0}, noLayer: slots{2}, noParent: slots{1}},
		{rows: "3 3", kept: "+", parent: ids{0}, cycles: slots{0}},
		{rows: "3 4", kept: "+", parent: ids{0}, noParent: slots{0}},
		{rows: "3 0, 3 0", kept: "+-", parent: ids{0, 0}, twice: slots{1}},
		{rows: "3 0-, 3 0", kept: "-+", parent: ids{0, 0}, noLayer: slots{0}},
		{rows: "3 0, 3 0-", kept: "+-", parent: ids{0, 0}, noLayer: slots{1}},
		{rows: "9 4, 4 9, 2 4", kept: "+++", parent: ids{4, 0, 4}, cycles: slots{1}},
	})
	for text, want := range map[string]bool{"5 0, 6 5": true, "5 6, 6 5": false, "0 0": false, "5 0, 5 0": false, "5 9": false, "": true} {
		if checkIs(t, snaps(text)) != want {
			t.Errorf("Is(%s) is %v", text, !want)
		}
	}
}

// No rows, none of them there, and one.
func TestNoneAndOne(t *testing.T) {
	for _, l := range [][]forest.Row{nil, {}, make([]forest.Row, 1), make([]forest.Row, 64)} {
		f := check(t, l)
		if !same(f, forest.Forest{Kept: make([]bool, len(l)), Parent: make([]uint32, len(l))}) {
			t.Errorf("of %d rows: %+v", len(l), f)
		}
	}
	checkAnswers(t, []answer{
		{rows: "1 0", kept: "+", parent: ids{0}},
		{rows: "1 0-", kept: "-", parent: ids{0}, noLayer: slots{0}},
		{rows: "1 1-", kept: "-", parent: ids{0}, noLayer: slots{0}},
		{rows: "1 2-", kept: "-", parent: ids{0}, noLayer: slots{0}},
		{rows: "1 0x", kept: "-", parent: ids{0}},
		{rows: "1 1x-", kept: "-", parent: ids{0}},
		{rows: "0 0", kept: "-", parent: ids{0}},
		{rows: "0 0-", kept: "-", parent: ids{0}},
		{rows: "0 7", kept: "-", parent: ids{0}},
		{rows: "4294967295 0", kept: "+", parent: ids{0}},
		{rows: "4294967295 4294967295", kept: "+", parent: ids{0}, cycles: slots{0}},
		{rows: "4294967295 1", kept: "+", parent: ids{0}, noParent: slots{0}},
		{rows: "1 4294967295", kept: "+", parent: ids{0}, noParent: slots{0}},
	})
}

// P21.1: a slot without a snapshot is nobody's parent and takes nobody's id, with a layer or without, whatever it seems to hold.
func TestNotThere(t *testing.T) {
	checkAnswers(t, []answer{
		{rows: "5 0x, 6 5", kept: "-+", parent: ids{0, 0}, noParent: slots{1}},
		{rows: "5 0x-, 6 5", kept: "-+", parent: ids{0, 0}, noParent: slots{1}},
		{rows: "5 0x, 5 0", kept: "-+", parent: ids{0, 0}},
		{rows: "5 0x-, 5 0, 6 5", kept: "-++", parent: ids{0, 0, 5}},
		{rows: "5 0, 5 0x", kept: "+-", parent: ids{0, 0}},
		{rows: "5 0, 5 0x-", kept: "+-", parent: ids{0, 0}},
		{rows: "5 9x, 5 9x, 5 9x-", kept: "---", parent: ids{0, 0, 0}},
		{rows: "5 7, 7 9x, 9 5", kept: "+-+", parent: ids{0, 0, 5}, noParent: slots{0}},
		{rows: "5 5x, 6 6x-", kept: "--", parent: ids{0, 0}},
		{rows: "5 6x, 6 5x", kept: "--", parent: ids{0, 0}},
	})
}

// P21.1: nor does a snapshot whose id is 0, and the parent 0 is no parent though one has that id.
func TestIDZero(t *testing.T) {
	checkAnswers(t, []answer{
		{rows: "0 0, 0 0, 0 0-", kept: "---", parent: ids{0, 0, 0}},
		{rows: "0 5, 5 0, 6 5", kept: "-++", parent: ids{0, 0, 5}},
		{rows: "5 0, 0 5, 6 0", kept: "+-+", parent: ids{0, 0, 0}},
		{rows: "0 0-, 3 0", kept: "-+", parent: ids{0, 0}},
		{rows: "0 3, 3 4", kept: "-+", parent: ids{0, 0}, noParent: slots{1}},
		{rows: "0 3, 3 3", kept: "-+", parent: ids{0, 0}, cycles: slots{1}},
		{rows: "3 0, 0 3x, 4 0", kept: "+-+", parent: ids{0, 0, 0}},
	})
}

// P21.1: without its layer one is told once, whatever else would be wrong with it, and is nobody's parent.
func TestNoLayer(t *testing.T) {
	checkAnswers(t, []answer{
		{rows: "5 0-, 6 0-, 7 0-", kept: "---", parent: ids{0, 0, 0}, noLayer: slots{0, 1, 2}},
		{rows: "5 0-, 5 0-, 5 0-", kept: "---", parent: ids{0, 0, 0}, noLayer: slots{0, 1, 2}},
		{rows: "5 0-, 6 5", kept: "-+", parent: ids{0, 0}, noLayer: slots{0}, noParent: slots{1}},
		{rows: "5 9-, 6 0", kept: "-+", parent: ids{0, 0}, noLayer: slots{0}},
		{rows: "5 6-, 6 5-", kept: "--", parent: ids{0, 0}, noLayer: slots{0, 1}},
		{rows: "5 6-, 6 5", kept: "-+", parent: ids{0, 0}, noLayer: slots{0}, noParent: slots{1}},
		{rows: "6 5, 5 0, 5 0-", kept: "++-", parent: ids{5, 0, 0}, noLayer: slots{2}},
		{rows: "5 5-", kept: "-", parent: ids{0}, noLayer: slots{0}},
		{rows: "5 0, 7 5-, 8 7, 9 8", kept: "+-++", parent: ids{0, 0, 0, 8}, noLayer: slots{1}, noParent: slots{2}},
	})
}

// P21.1: of one id the lowest with its layer is kept, with its own parent, whatever the others have.
func TestTwice(t *testing.T) {
	checkAnswers(t, []answer{
		{rows: "5 0, 5 0, 5 0", kept: "+--", parent: ids{0, 0, 0}, twice: slots{1, 2}},
		{rows: "5 6, 5 0, 6 0", kept: "+-+", parent: ids{6, 0, 0}, twice: slots{1}},
		{rows: "5 0, 5 6, 6 0", kept: "+-+", parent: ids{0, 0, 0}, twice: slots{1}},
		{rows: "5 0, 5 9", kept: "+-", parent: ids{0, 0}, twice: slots{1}},
		{rows: "5 9, 5 0", kept: "+-", parent: ids{0, 0}, twice: slots{1}, noParent: slots{0}},
		{rows: "5 0, 5 5", kept: "+-", parent: ids{0, 0}, twice: slots{1}},
		{rows: "5 5, 5 0", kept: "+-", parent: ids{0, 0}, twice: slots{1}, cycles: slots{0}},
		{rows: "5 6-, 5 0, 5 6, 6 0", kept: "-+-+", parent: ids{0, 0, 0, 0}, twice: slots{2}, noLayer: slots{0}},
		{rows: "5 0-, 5 0-, 5 6, 6 0", kept: "--++", parent: ids{0, 0, 6, 0}, noLayer: slots{0, 1}},
		{rows: "5 0, 5 0-, 5 0", kept: "+--", parent: ids{0, 0, 0}, twice: slots{2}, noLayer: slots{1}},
		{rows: "5 6x, 5 0, 5 6, 6 0", kept: "-+-+", parent: ids{0, 0, 0, 0}, twice: slots{2}},
		{rows: "5 0x-, 5 6-, 5 6, 6 0", kept: "--++", parent: ids{0, 0, 6, 0}, noLayer: slots{1}},
		{rows: "1 2, 2 0, 2 1", kept: "++-", parent: ids{2, 0, 0}, twice: slots{2}},
		{rows: "1 2, 2 1, 2 0", kept: "++-", parent: ids{0, 1, 0}, twice: slots{2}, cycles: slots{0}},
		{rows: "1 2, 2 1-, 2 0", kept: "+-+", parent: ids{2, 0, 0}, noLayer: slots{1}},
		{rows: "1 2, 2 1x, 2 0", kept: "+-+", parent: ids{2, 0, 0}},
		{rows: "7 0, 8 0, 7 8, 8 7, 7 7, 9 7", kept: "++---+", parent: ids{0, 0, 0, 0, 0, 7}, twice: slots{2, 3, 4}},
	})
}

// P21.1: a parent stays, if it is the id of one that is kept: above, below, or the greatest there is.
func TestParents(t *testing.T) {
	checkAnswers(t, []answer{
		{rows: "5 0, 6 5, 7 5", kept: "+++", parent: ids{0, 5, 5}},
		{rows: "6 5, 7 5, 5 0", kept: "+++", parent: ids{5, 5, 0}},
		{rows: "6 5, 5 0-", kept: "+-", parent: ids{0, 0}, noLayer: slots{1}, noParent: slots{0}},
		{rows: "6 5, 5 0, 5 0", kept: "++-", parent: ids{5, 0, 0}, twice: slots{2}},
		{rows: "5 0, 6 5, 5 6", kept: "++-", parent: ids{0, 5, 0}, twice: slots{2}},
		{rows: "6 5, 7 6, 8 7", kept: "+++", parent: ids{0, 6, 7}, noParent: slots{0}},
		{rows: "8 7, 7 6, 6 5", kept: "+++", parent: ids{7, 6, 0}, noParent: slots{2}},
		{rows: "1 9, 2 9, 3 9", kept: "+++", parent: ids{0, 0, 0}, noParent: slots{0, 1, 2}},
		{rows: "1 4294967295, 4294967295 0", kept: "++", parent: ids{4294967295, 0}},
		{rows: "1 4294967295, 4294967294 0", kept: "++", parent: ids{0, 0}, noParent: slots{0}},
		{rows: "1 4294967295, 4294967295 1", kept: "++", parent: ids{0, 1}, cycles: slots{0}},
		{rows: "4294967295 2147483648, 2147483648 2147483647, 2147483647 4294967295", kept: "+++", parent: ids{2147483648, 2147483647, 0}, cycles: slots{2}},
		{rows: "65537 1, 257 1", kept: "++", parent: ids{0, 0}, noParent: slots{0, 1}},
	})
}

// Nothing hangs on what a snapshot's layer is: whether it is there is told by the row.
func TestLayersAreNotRead(t *testing.T) {
	l := rows("5 7, 7 9, 9 5, 5 5, 3 5-, 4 3")
	want := forest.Of(l)
	for i := range l {
		l[i].Snap.Layer = [32]byte{}
	}
	if !same(check(t, l), want) {
		t.Error("layers of zeros")
	}
	for i := range l {
		l[i].Snap.Layer = [32]byte{31: byte(7 * i)}
	}
	if !same(check(t, l), want) {
		t.Error("other layers")
	}
}

// P21.2.
func TestIs(t *testing.T) {
	for _, text := range []string{"", "1 0", "4294967295 0", "1 0, 2 0, 3 0", "1 0, 2 1, 3 2, 4 3", "4 3, 3 2, 2 1, 1 0", "3 2, 1 0, 4 3, 2 1", "6 5, 5 0, 7 5", "9 8, 8 0, 1 9, 2 9, 3 4, 4 0", "1 4294967295, 4294967295 0", "1 2, 2 0, 3 4, 4 0"} {
		if !checkIs(t, snaps(text)) {
			t.Errorf("Is(%s) is false", text)
		}
	}
	for _, text := range []string{
		"0 0", "0 1", "1 0, 0 0", "0 0, 1 0", "1 0, 0 1, 2 0", "0 0, 0 0",
		"1 0, 1 0", "1 0, 2 1, 1 2", "1 0, 2 0, 3 0, 1 0", "2 1, 2 1, 1 0", "1 0, 1 1", "1 1, 1 0",
		"1 2", "1 4294967295", "1 0, 2 3", "2 3, 1 0", "1 0, 2 1, 3 2, 4 9", "4294967295 4294967294",
		"1 1", "1 0, 2 2", "4294967295 4294967295", "1 2, 2 1", "2 1, 1 2", "3 0, 1 2, 2 1", "1 2, 2 3, 3 1", "1 2, 2 3, 3 4, 4 5, 5 1",
		"1 2, 2 3, 3 2", "3 2, 2 3, 1 2", "1 1, 2 1", "2 1, 1 1", "1 0, 2 1, 8 9, 9 8, 5 8, 6 5",
	} {
		if checkIs(t, snaps(text)) {
			t.Errorf("Is(%s) is true", text)
		}
	}
}
