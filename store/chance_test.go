package store_test

import (
	"math/rand"
	"slices"
	"testing"

	"assay/api"
	"assay/store"
)

// byChance is a disk whose directory has entries of all kinds. So few of its data sectors are unlike each other, and so near do entries lie, that keys and sectors meet often.
func byChance(r *rand.Rand, n int) []api.Sector {
	p := placesOf(n)
	l := noise(r, n)
	few := 1 + r.Intn(6)
	for i := p.data; i < n; i++ {
		l[i] = l[3+r.Intn(few)]
	}
	wide := 1 + r.Intn(n-p.data)
	lengths := []int{0, 1, 5, 63, 64, 65, 100, 128, 129, 1 + r.Intn(400), 1 + r.Intn(4096)}
	crowd := r.Intn(5)
	for slot := range p.slots {
		length := lengths[r.Intn(len(lengths))]
		many := (length + 63) / 64
		start := p.data + r.Intn(wide)
		if length == 0 {
			start = 0
		} else if start+many > n {
			continue
		}
		lay(l, slot, live, start, length)
		switch r.Intn(5 + crowd) {
		case 0:
			l[p.dir+slot] = api.Sector{}
		case 1:
			tear(l, slot)
		case 2:
			lay(l, slot, quarantine+wrong*r.Intn(2), start, length)
		case 3:
			lay(l, slot, corrupt, start, length)
		}
	}
	return l
}

// P19.1 to P19.7: disks by chance, of every size.
func TestByChance(t *testing.T) {
	r := rand.New(rand.NewSource(30))
	seen := map[int]int{}
	for range 12 {
		for _, n := range sizes() {
			s := check(t, byChance(r, n))
			for i := range s.Slots() {
				seen[10*s.State(i)]++
				for _, kind := range s.Wrong(i) {
					seen[kind]++
				}
			}
		}
	}
	for _, what := range []int{0, 10, 20, 30, 5, 6, 7, 8, 9} {
		if seen[what] < 50 {
			t.Errorf("seen too seldom to tell: %v", seen)
		}
	}
}

// P19.1 to P19.7: disks by chance with a committed mark, whose batch changes slots and bytes.
func TestByChanceBehindTheReplay(t *testing.T) {
	r := rand.New(rand.NewSource(31))
	for range 8 {
		for _, n := range sizes() {
			l, other := byChance(r, n), byChance(r, n)
			p := placesOf(n)
			var targets []int
			for len(targets) < 1+r.Intn(8) {
				if at := p.dir + r.Intn(p.slots); !slices.Contains(targets, at) {
					targets = append(targets, at)
				}
			}
			slices.Sort(targets)
			for i, at := range targets {
				l[3+i] = other[at]
			}
			commit(l, targets...)
			if len(targetsOf(l)) == 0 {
				t.Fatal("no committed mark")
			}
			check(t, l)
		}
	}
}

// P19.7: which are good hangs on no quarantined entry: these are freed, torn, and laid elsewhere.
func TestGoodOnesHangOnNoQuarantinedOne(t *testing.T) {
	r := rand.New(rand.NewSource(32))
	for range 6 {
		for _, n := range sizes() {
			l := byChance(r, n)
			s := store.Of(imageOf(t, l))
			p := placesOf(n)
			for way := range 3 {
				x := slices.Clone(l)
				for slot := range p.slots {
					e, ok := s.Entry(slot)
					if !ok || e.State != 2 {
						continue
					}
					switch way {
					case 0:
						x[p.dir+slot] = api.Sector{}
					case 1:
						tear(x, slot)
					case 2:
						lay(x, slot, quarantine, p.data+r.Intn(n-p.data), 1)
					}
				}
				checkGoodAlike(t, s, store.Of(imageOf(t, x)))
			}
		}
	}
}

// checkGoodAlike holds the good ones of two stores against each other.
func checkGoodAlike(t *testing.T, a, b *store.Store) {
	t.Helper()
	for i := range a.Slots() {
		if (a.State(i) == good) != (b.State(i) == good) {
			t.Fatalf("slot %d: %s; %s", i, told(a), told(b))
		}
		e, _ := a.Entry(i)
		one, is := a.Find(e.Key)
		if two, too := b.Find(e.Key); e.State == 1 && (one != two || is != too) {
			t.Fatalf("slot %d: Find: %d, %v; %d, %v", i, one, is, two, too)
		}
	}
}
