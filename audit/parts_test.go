package audit_test

import (
	"math"
	"math/rand"
	"slices"
	"testing"

	"assay/api"
)

// wreck is a disk of 1024 sectors on which there are findings of each kind, mostly several.
func wreck(t *testing.T) *disk {
	d := zeros(t, 1024)
	blob := d.blob(0, "abc")
	page := d.doc(1, api.Index, blob, blob)
	d.blob(40, "abc")
	d.entry(41, api.Entry{State: api.Live, Start: d.g.Data, Length: 2, Key: keyOf("ab")})
	d.entry(42, api.Entry{State: api.Live, Start: d.g.Data, Length: 2, Key: nowhere(1)})
	for at := 50; at < 90; at++ {
		d.corrupt(at, "x")
	}
	d.tag(3, "a", page.Key)
	d.tag(4, "a", page.Key)
	d.tag(5, "a", nowhere(1))
	d.snap(7, 5, 7, blob.Key)
	d.snap(9, 7, 5, page.Key)
	d.snap(10, 5, 0, blob.Key)
	d.snap(11, 6, 1, blob.Key)
	d.snap(12, 8, 8, nowhere(1))
	d.settle()
	for _, at := range []int{0, 1, d.g.Bitmap + 2, d.g.Dir + 100, d.g.Dir + 101, d.g.Tag + 60, d.g.Snap + 61, d.g.Count + 4} {
		d.tear(at)
	}
	d.turn(700, 3, 290)
	d.count(0, 7)
	d.count(77, 1)
	d.count(127, 9)
	d.l[2][5] = 1
	return d
}

// P23.2: there are findings of each kind at once, in order, each once.
func TestAllKindsAtOnce(t *testing.T) {
	d := wreck(t)
	all := check(t, d.l)
	for i, f := range all {
		if i > 0 && (f.Kind < all[i-1].Kind || f.Kind == all[i-1].Kind && f.At <= all[i-1].At) {
			t.Errorf("%v behind %v", f, all[i-1])
		}
	}
	for _, kind := range kinds() {
		if len(only(all, kind)) == 0 {
			t.Errorf("none of the kind %d", kind)
		}
	}
}

// P23.2: of no kinds nothing is told, and of what is no kind neither.
func TestPartsOfNoKinds(t *testing.T) {
	strange := []int{0, -1, 20, 21, 99, 255, 256 + api.FBit, 1<<32 + api.FBit, -api.FBit, math.MinInt, math.MinInt + api.FBit, math.MaxInt}
	for _, d := range []*disk{wreck(t), zeros(t, 64), emptyStore(t, 64)} {
		im := d.image()
		for workers := 1; workers <= 8; workers++ {
			if l := parts(t, im, workers); len(l) > 0 {
				t.Errorf("of none: %v", l)
			}
			if l := parts(t, im, workers, strange...); len(l) > 0 {
				t.Errorf("of %v: %v", strange, l)
			}
			for _, kind := range strange {
				if l := parts(t, im, workers, kind); len(l) > 0 {
					t.Errorf("of %d: %v", kind, l)
				}
			}
			want := only(found(t, im, 1), api.FBit, api.FSuper)
			if l := parts(t, im, workers, append(strange, api.FBit, 0, api.FSuper, 0)...); !slices.Equal(l, want) {
				t.Errorf("of %v and two kinds: %v, want %v", strange, l, want)
			}
		}
	}
}

// P23.2: of one kind, of any two, in either order and each of them twice.
func TestPartsOfOneAndTwo(t *testing.T) {
	im := wreck(t).image()
	all := found(t, im, 1)
	for _, a := range kinds() {
		for _, b := range kinds() {
			want := only(all, a, b)
			for i, l := range [][]int{{a, b}, {b, a, b}, {a, a, b, b, a}} {
				if got := parts(t, im, 1+(a+b+i)%8, l...); !slices.Equal(got, want) {
					t.Fatalf("of %v: %v, want %v", l, got, want)
				}
			}
		}
	}
}

// P23.2: of any kinds, in any order, some of them several times, and some that are none.
func TestPartsOfAny(t *testing.T) {
	r := rand.New(rand.NewSource(23))
	im := wreck(t).image()
	all := found(t, im, 1)
	for range 300 {
		var l []int
		for range r.Intn(40) {
			l = append(l, r.Intn(24)-2)
		}
		workers := 1 + r.Intn(8)
		if got := parts(t, im, workers, l...); !slices.Equal(got, only(all, l...)) {
			t.Fatalf("%d workers, of %v: %v, want %v", workers, l, got, only(all, l...))
		}
	}
}

// P23.4: Findings is Parts of all kinds, in whatever order, and however often they are named; nothing is to be done twice for that.
func TestPartsOfAll(t *testing.T) {
	r := rand.New(rand.NewSource(24))
	for _, d := range []*disk{wreck(t), zeros(t, 64), family(t, 481)} {
		im := d.image()
		for workers := 1; workers <= 8; workers++ {
			all := found(t, im, workers)
			turned := kinds()
			slices.Reverse(turned)
			mixed := kinds()
			r.Shuffle(len(mixed), func(i, k int) { mixed[i], mixed[k] = mixed[k], mixed[i] })
			for _, l := range [][]int{kinds(), turned, mixed, slices.Repeat(mixed, 20000)} {
				if got := parts(t, im, workers, l...); !slices.Equal(got, all) {
					t.Fatalf("of %d kinds: %v, want %v", len(l), got, all)
				}
			}
		}
	}
}
