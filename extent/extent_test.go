package extent_test

import (
	"math"
	"math/rand"
	"slices"
	"testing"

	"assay/api"
	"assay/extent"
)

// model is the same sectors as a bool each, true if it is taken: the chapter's words without a range.
type model struct {
	from  int
	taken []bool
}

func (m *model) is(at int, taken bool) bool {
	return at >= m.from && at < m.from+len(m.taken) && m.taken[at-m.from] == taken
}

// turn makes n sectors from start on taken or free, if all of them were the other.
func (m *model) turn(start, n int, taken bool) bool {
	if n == 0 {
		return true
	}
	if n < 0 {
		return false
	}
	for i := range min(n, 2000) {
		if start > math.MaxInt-i || !m.is(start+i, !taken) {
			return false
		}
	}
	for i := range n {
		m.taken[start+i-m.from] = taken
	}
	return true
}

func (m *model) ranges() [][2]int {
	var l [][2]int
	for i, t := range m.taken {
		switch {
		case t:
		case i == 0 || m.taken[i-1]:
			l = append(l, [2]int{m.from + i, 1})
		default:
			l[len(l)-1][1]++
		}
	}
	return l
}

func (m *model) lowest(n int) (int, bool) {
	row := 0
	for i, t := range m.taken {
		row++
		if t {
			row = 0
		}
		if n >= 1 && row == n {
			return m.from + i + 1 - n, true
		}
	}
	return 0, false
}

func (m *model) left() int {
	n := 0
	for _, t := range m.taken {
		if !t {
			n++
		}
	}
	return n
}

// made is the sectors from from on and below to, and their model.
func made(t *testing.T, from, to int) (*extent.Extent, *model) {
	t.Helper()
	x, e := extent.New(from, to)
	if x == nil || e != api.OK {
		t.Fatalf("New(%d, %d) = %v, %v", from, to, x, e)
	}
	return x, &model{from: from, taken: make([]bool, to-from)}
}

// alike holds what is told in passing against the model.
func alike(t *testing.T, x *extent.Extent, m *model) {
	t.Helper()
	if got, want := x.Ranges(), m.ranges(); !slices.Equal(got, want) {
		t.Fatalf("Ranges = %v, want %v", got, want)
	}
	if got, want := x.Left(), m.left(); got != want {
		t.Fatalf("Left = %d, want %d", got, want)
	}
}

// alikeInAll holds all that is told against the model.
func alikeInAll(t *testing.T, x *extent.Extent, m *model) {
	t.Helper()
	alike(t, x, m)
	for at := m.from - 2; at < m.from+len(m.taken)+2; at++ {
		if got, want := x.Taken(at), m.is(at, true); got != want {
			t.Fatalf("Taken(%d) = %v among %v", at, got, m.taken)
		}
	}
	for n := -2; n < len(m.taken)+2; n++ {
		at, ok := x.Lowest(n)
		if a, o := m.lowest(n); at != a || ok != o {
			t.Fatalf("Lowest(%d) = %d, %v, want %d, %v", n, at, ok, a, o)
		}
	}
}

// turn does one Take or Free to both, and holds the answers against each other.
func turn(t *testing.T, x *extent.Extent, m *model, start, n int, take bool) bool {
	t.Helper()
	do, word := x.Free, "Free"
	if take {
		do, word = x.Take, "Take"
	}
	got, want := do(start, n), m.turn(start, n, take)
	if got != want {
		t.Fatalf("%s(%d, %d) = %v among %v from %d", word, start, n, got, m.taken, m.from)
	}
	return got
}

// strange is numbers that are no sectors' or lie at an end of what there is.
func strange() []int {
	return []int{math.MinInt, math.MinInt + 1, -1 << 32, -1025, -1, 0, 1, 9, 10, 11, 19, 20, 21, 1023, 1024, 1025, 1 << 31, 1 << 32, math.MaxInt - 1, math.MaxInt}
}

// P8.1
func TestNewRefusesSectorsThatMayNotBe(t *testing.T) {
	l := append(strange(), 5, 4, 512)
	for _, from := range l {
		for _, to := range l {
			x, e := extent.New(from, to)
			if from < 0 || to < from || to > 1024 {
				if x != nil || e != api.ErrArg {
					t.Errorf("New(%d, %d) = %v, %v", from, to, x, e)
				}
				continue
			}
			if x == nil || e != api.OK {
				t.Errorf("New(%d, %d) = %v, %v", from, to, x, e)
			}
		}
	}
}

// P8.1
func TestNewSectorsAreAllFree(t *testing.T) {
	for _, c := range [][2]int{{0, 0}, {0, 1}, {5, 5}, {10, 20}, {29, 64}, {0, 1024}, {279, 1024}, {1023, 1024}, {1024, 1024}} {
		x, m := made(t, c[0], c[1])
		alikeInAll(t, x, m)
		if n := c[1] - c[0]; x.Left() != n {
			t.Errorf("New%v: Left = %d", c, x.Left())
		}
	}
}

// P8.1, P8.2
func TestWhereThereAreNoSectorsNoneIsTaken(t *testing.T) {
	x, m := made(t, 5, 5)
	for start := 3; start < 8; start++ {
		for n := -1; n < 3; n++ {
			if x.Take(start, n) != (n == 0) || x.Free(start, n) != (n == 0) {
				t.Errorf("%d from %d on", n, start)
			}
		}
	}
	alikeInAll(t, x, m)
}

// P8.2, P8.3: the chapter's examples
func TestTheChaptersExamples(t *testing.T) {
	x, m := made(t, 10, 20)
	for _, c := range []struct {
		start, n int
		want     bool
	}{{12, 3, true}, {14, 1, false}, {9, 2, false}, {19, 2, false}, {12, -1, false}, {99, 0, true}} {
		if turn(t, x, m, c.start, c.n, true) != c.want {
			t.Errorf("Take(%d, %d) = %v", c.start, c.n, !c.want)
		}
	}
	if l := x.Ranges(); !slices.Equal(l, [][2]int{{10, 2}, {15, 5}}) {
		t.Errorf("Ranges = %v", l)
	}
	if x.Left() != 7 || !x.Taken(12) || x.Taken(15) || x.Taken(9) {
		t.Error("Left or Taken")
	}
	for n, want := range map[int]int{1: 10, 2: 10, 3: 15, 6: 0, 0: 0, -1: 0} {
		if at, ok := x.Lowest(n); at != want || ok != (want != 0) {
			t.Errorf("Lowest(%d) = %d, %v", n, at, ok)
		}
	}
	if !x.Free(13, 1) || !slices.Equal(x.Ranges(), [][2]int{{10, 2}, {13, 1}, {15, 5}}) {
		t.Errorf("Free(13, 1): %v", x.Ranges())
	}
	if x.Free(12, 2) || !x.Free(12, 1) || !x.Free(14, 1) || !slices.Equal(x.Ranges(), [][2]int{{10, 10}}) {
		t.Errorf("all free: %v", x.Ranges())
	}
}

// P8.2: whatever is taken, each Take and Free of each part, and of what reaches out of it
func TestEachTurnOfEachState(t *testing.T) {
	const from, many = 3, 6
	for state := range 1 << many {
		for start := from - 2; start <= from+many+1; start++ {
			for n := -2; n <= many+2; n++ {
				for _, take := range []bool{true, false} {
					x, m := made(t, from, from+many)
					for i := range many {
						if state>>i&1 == 1 {
							turn(t, x, m, from+i, 1, true)
						}
					}
					turn(t, x, m, start, n, take)
					alikeInAll(t, x, m)
				}
			}
		}
	}
}

// P8.2: numbers whose sum wraps round
func TestNumbersThatMayNotBeChangeNothing(t *testing.T) {
	x, m := made(t, 10, 20)
	turn(t, x, m, 12, 3, true)
	for _, start := range strange() {
		for _, n := range strange() {
			y, o := x.Copy(), &model{from: 10, taken: slices.Clone(m.taken)}
			turn(t, y, o, start, n, true)
			alikeInAll(t, y, o)
			y, o = x.Copy(), &model{from: 10, taken: slices.Clone(m.taken)}
			turn(t, y, o, start, n, false)
			alikeInAll(t, y, o)
		}
		if got := x.Taken(start); got != m.is(start, true) {
			t.Errorf("Taken(%d) = %v", start, got)
		}
		at, ok := x.Lowest(start)
		if a, o := m.lowest(start); at != a || ok != o {
			t.Errorf("Lowest(%d) = %d, %v", start, at, ok)
		}
	}
	alikeInAll(t, x, m)
}

// P8.2, P8.3
func TestTheLastSectorsOfTheGreatestDisk(t *testing.T) {
	x, m := made(t, 0, 1024)
	for _, c := range [][2]int{{1023, 1}, {1023, 1}, {1024, 1}, {1022, 2}, {0, 1023}, {0, 1}} {
		turn(t, x, m, c[0], c[1], true)
	}
	alikeInAll(t, x, m)
	if x.Left() != 0 || len(x.Ranges()) != 0 {
		t.Errorf("all are taken: %d left, %v", x.Left(), x.Ranges())
	}
	if !x.Free(0, 1024) || x.Free(0, 1024) {
		t.Error("all at once")
	}
	if at, ok := x.Lowest(1024); at != 0 || !ok {
		t.Errorf("Lowest(1024) = %d, %v", at, ok)
	}
}

// P8.3
func TestLowestTakesNothing(t *testing.T) {
	x, m := made(t, 10, 20)
	for range 3 {
		if at, ok := x.Lowest(4); at != 10 || !ok {
			t.Fatalf("Lowest(4) = %d, %v", at, ok)
		}
	}
	alikeInAll(t, x, m)
}

// P8.3, P8.5: as many ranges as there can be, that come and go in any order
func TestManyRangesComeAndGo(t *testing.T) {
	for seed := range int64(8) {
		r := rand.New(rand.NewSource(seed))
		x, m := made(t, 0, 1024)
		turn(t, x, m, 0, 1024, true)
		for _, i := range r.Perm(512) {
			turn(t, x, m, 2*i, 1, false)
			alike(t, x, m)
		}
		for _, i := range r.Perm(512) {
			turn(t, x, m, 2*i, 1, true)
			alike(t, x, m)
		}
		for _, i := range r.Perm(1024) {
			turn(t, x, m, i, 1, false)
			alike(t, x, m)
		}
		alikeInAll(t, x, m)
	}
}

// P8.2, P8.3, P8.5
func TestManyTurnsByChance(t *testing.T) {
	for seed := range int64(40) {
		r := rand.New(rand.NewSource(seed))
		from := r.Intn(200)
		x, m := made(t, from, from+1+r.Intn(300))
		for range 400 {
			turn(t, x, m, from-3+r.Intn(len(m.taken)+6), r.Intn(12)-1, r.Intn(2) == 0)
			alike(t, x, m)
		}
		alikeInAll(t, x, m)
	}
}

// P8.5
func TestWhatIsTakenNowIsAllThatIsTold(t *testing.T) {
	const from, many = 7, 64
	for seed := range int64(30) {
		r := rand.New(rand.NewSource(seed))
		m := &model{from: from, taken: make([]bool, many)}
		for i := range many {
			m.taken[i] = r.Intn(3) == 0
		}
		for range 5 {
			x := reached(t, r, m)
			alikeInAll(t, x, m)
			for range 30 {
				start, n, take := from+r.Intn(many), 1+r.Intn(4), r.Intn(2) == 0
				y, o := x.Copy(), &model{from: from, taken: slices.Clone(m.taken)}
				turn(t, y, o, start, n, take)
				alike(t, y, o)
			}
		}
	}
}

// reached is sectors that came to be taken as the model's are, by turns and an order of chance.
func reached(t *testing.T, r *rand.Rand, m *model) *extent.Extent {
	t.Helper()
	x, now := made(t, m.from, m.from+len(m.taken))
	for range 100 {
		turn(t, x, now, m.from+r.Intn(len(m.taken)), 1+r.Intn(9), r.Intn(2) == 0)
	}
	for _, i := range r.Perm(len(m.taken)) {
		turn(t, x, now, m.from+i, 1, m.taken[i])
	}
	return x
}

// P8.4
func TestACopyGoesOnAlone(t *testing.T) {
	x, m := made(t, 10, 30)
	for i := 10; i < 30; i += 3 {
		turn(t, x, m, i, 1, true)
	}
	y, o := x.Copy(), &model{from: 10, taken: slices.Clone(m.taken)}
	alikeInAll(t, y, o)
	for i := 10; i < 30; i++ {
		turn(t, x, m, i, 1, i%2 == 0)
		alikeInAll(t, y, o)
	}
	for i := 29; i >= 10; i-- {
		turn(t, y, o, i, 1, i%4 == 1)
		alikeInAll(t, x, m)
		alikeInAll(t, y, o)
	}
}

// P8.4: one whose list has room behind it
func TestACopyAndItsLikeGrowApart(t *testing.T) {
	for many := range 20 {
		x, m := made(t, 0, 100)
		turn(t, x, m, 0, 100, true)
		for i := range many {
			turn(t, x, m, 2*i, 1, false)
		}
		y, o := x.Copy(), &model{taken: slices.Clone(m.taken)}
		turn(t, x, m, 80, 1, false)
		turn(t, y, o, 90, 1, false)
		alikeInAll(t, x, m)
		alikeInAll(t, y, o)
	}
}

// DOC P2
func TestRangesAreNewMemory(t *testing.T) {
	x, m := made(t, 0, 40)
	for i := 1; i < 40; i += 2 {
		turn(t, x, m, i, 1, true)
	}
	a, b := x.Ranges(), x.Ranges()
	for i := range a {
		a[i] = [2]int{-1, -1}
	}
	_ = append(a, [2]int{-2, -2})
	if !slices.Equal(b, m.ranges()) {
		t.Errorf("another list saw it: %v", b)
	}
	alikeInAll(t, x, m)
}

// DOC P5
func TestTwoHaveNothingToDoWithEachOther(t *testing.T) {
	x, m := made(t, 0, 64)
	y, o := made(t, 0, 64)
	turn(t, x, m, 0, 64, true)
	alikeInAll(t, y, o)
	turn(t, y, o, 5, 9, true)
	turn(t, x, m, 30, 2, false)
	alikeInAll(t, x, m)
	alikeInAll(t, y, o)
}

// DOC P1
func TestANilOneAnswersZeroValues(t *testing.T) {
	var x *extent.Extent
	for _, n := range strange() {
		if x.Take(n, 0) || x.Take(0, n) || x.Free(n, 0) || x.Free(0, n) || x.Taken(n) {
			t.Errorf("%d: true", n)
		}
		if at, ok := x.Lowest(n); at != 0 || ok {
			t.Errorf("Lowest(%d) = %d, %v", n, at, ok)
		}
	}
	if x.Left() != 0 || len(x.Ranges()) != 0 || x.Copy() != nil {
		t.Error("Left, Ranges or Copy")
	}
}
