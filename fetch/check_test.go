package fetch_test

import (
	"slices"
	"strings"
	"testing"

	"assay/api"
	"assay/audit"
	"assay/fetch"
	"assay/graph"
	"assay/image"
	"assay/store"
)

// texts is texts that are seldom a tag's name, or never.
func texts() []string {
	return []string{"", " ", "v", "v1 ", " v1", "V1", "v1\x00", "\x00", "v1/", "-", ".", "ü", "\xff", strings.Repeat("x", 24), strings.Repeat("x", 25), strings.Repeat("v1", 4000), "t", "T0", "t0\n"}
}

// check holds what fetch tells of a disk against the second reading and P27.3, and answers the plan.
func check(t *testing.T, l []api.Sector) []api.Digest {
	t.Helper()
	im := imageOf(t, l)
	r := read(im)
	plan := fetch.Plan(im)
	if want := r.plan(func(api.Tag) bool { return true }); !slices.Equal(plan, want) {
		t.Fatalf("%d sectors: the plan is %x, want %x", len(l), plan, want)
	}
	var of [][]api.Digest
	for _, name := range r.names() {
		of = append(of, checkName(t, im, r, name))
	}
	if both := together(of...); !slices.Equal(plan, both) {
		t.Fatalf("%d sectors: the plan is %x, and of all names together %x", len(l), plan, both)
	}
	for _, name := range texts() {
		checkName(t, im, r, name)
	}
	checkList(t, im, plan)
	checkFound(t, im, r)
	return plan
}

// checkName holds what is told of one name, and answers it.
func checkName(t *testing.T, im *image.Image, r *reading, name string) []api.Digest {
	t.Helper()
	got := fetch.Of(im, name)
	if want := r.plan(func(tag api.Tag) bool { return tag.Name == name }); !slices.Equal(got, want) {
		t.Fatalf("%d sectors: of %q %x, want %x", im.N(), name, got, want)
	}
	return got
}

// checkList: it rises, and has no digest of a good entry.
func checkList(t *testing.T, im *image.Image, l []api.Digest) {
	t.Helper()
	s := store.Of(im)
	for i, key := range l {
		if i > 0 && string(l[i-1][:]) >= string(key[:]) {
			t.Fatalf("%d sectors: %x behind %x", im.N(), key, l[i-1])
		}
		if at, ok := s.Find(key); ok {
			t.Fatalf("%d sectors: %x is there at slot %d", im.N(), key, at)
		}
	}
}

// checkFound: a tag of which the audit doesn't say that it dangles adds nothing, and what graph misses from the others' entries on is what they add.
func checkFound(t *testing.T, im *image.Image, r *reading) {
	t.Helper()
	dangling, e := audit.Parts(im, 1, api.FDangling)
	if e != api.OK {
		t.Fatal(e)
	}
	g, s := graph.Of(store.Of(im)), store.Of(im)
	for at, tag := range r.tags() {
		lacked := r.lacked(tag.Key)
		if !slices.Contains(dangling, api.Finding{Kind: api.FDangling, At: at}) && len(lacked) > 0 {
			t.Fatalf("%d sectors: tag %d doesn't dangle, and lacks %x", im.N(), at, lacked)
		}
		slot, ok := s.Find(tag.Key)
		if !ok {
			slot = -1
		}
		if missing := g.Missing(slot); !slices.Equal(missing, lacked) {
			t.Fatalf("%d sectors: tag %d lacks %x, and %x is missing", im.N(), at, lacked, missing)
		}
	}
}

// is holds what is told against what is asked.
func is[T comparable](t *testing.T, got, want T) {
	t.Helper()
	if got != want {
		t.Errorf("%v, want %v", got, want)
	}
}

// plans holds the plan of a disk, behind all that check asks of it. The digests may be told in any order.
func (d *disk) plans(want ...api.Digest) {
	d.t.Helper()
	if got := check(d.t, d.l); !slices.Equal(got, together(want)) {
		d.t.Errorf("%d sectors: the plan is %x, want %x", len(d.l), got, together(want))
	}
}

// of holds what is to be got for one name. The digests may be told in any order.
func (d *disk) of(name string, want ...api.Digest) {
	d.t.Helper()
	if got := fetch.Of(d.image(), name); !slices.Equal(got, together(want)) {
		d.t.Errorf("%d sectors: of %q %x, want %x", len(d.l), name, got, together(want))
	}
}
