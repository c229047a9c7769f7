package script_test

import (
	"fmt"
	"math/rand"
	"slices"
	"strings"
	"testing"

	"assay/api"
	"assay/script"
)

// pool is writes that a script by chance may have: a store of 64 sectors, zeros, torn sectors, tags that lack something, entries with wrong keys, and a mark.
func pool(t *testing.T) []api.Write {
	doc := page(t, keyOf("abc"), keyOf("x"))
	l := []api.Write{{At: 2, Data: summed(api.Sector{0x4a, 0x4d, 1, 0, 20})}, {At: 2, Data: torn()}, {At: 3, Data: torn()}, {At: 64, Data: torn()}, {At: -1}}
	for at, s := range made(t, 64, "x", doc) {
		if s != (api.Sector{}) {
			l = append(l, api.Write{At: at, Data: s})
		}
	}
	for at := range 8 {
		l = append(l, api.Write{At: 12 + at, Data: wrong(t, 64, at)}, api.Write{At: 20 + at, Data: api.Sector{}}, api.Write{At: 20 + at, Data: torn()})
	}
	for at := range 4 {
		l = append(l, api.Write{At: 20 + at, Data: pin(t, "v1", keyOf(doc))}, api.Write{At: 20 + at, Data: pin(t, "v2", keyOf("x"))})
	}
	return l
}

// anyPut is a put of one of these writes, now and then elsewhere.
func anyPut(r *rand.Rand, writes []api.Write) script.Step {
	w := writes[r.Intn(len(writes))]
	if r.Intn(6) == 0 {
		w.At = r.Intn(70) - 2
	}
	return put(w.At, w.Data)
}

// anyPlay is steps by chance as they may stand in a script: most of them puts, and few of them Disks.
func anyPlay(r *rand.Rand, n int, writes []api.Write) []script.Step {
	var l []script.Step
	for range n {
		s := anyPut(r, writes)
		switch r.Intn(24) {
		case 0:
			s = disk(64 + r.Intn(5))
			if r.Intn(2) == 0 {
				s = disk(r.Intn(64))
			}
		case 1, 2:
			s = flush()
		case 3, 4:
			s = stop(r.Intn(45) - 2)
		case 5, 6:
			s = run(r.Intn(11) - 1)
		case 7, 8:
			s = audit(r.Intn(11) - 1)
		case 9, 10:
			s = restart()
			for range r.Intn(15) {
				s.Last = append(s.Last, r.Intn(2) == 1)
			}
		case 11:
			s = anyStep(r, r.Intn(2) == 0)
		}
		l = append(l, s)
	}
	return l
}

// taken tells whether a step is a Disk that is taken.
func taken(s script.Step) bool { return s.Kind == script.Disk && s.N >= 64 && s.N <= 1024 }

// P30.4, P30.6: scripts by chance, cut at each place: each line is as the second reading has it, and stays whatever comes behind it; behind a Disk that is taken nothing is seen of what stands ahead of it.
func TestCut(t *testing.T) {
	r := rand.New(rand.NewSource(302))
	writes := pool(t)
	store := made(t, 64, "x", page(t, keyOf("abc"), keyOf("x")))
	heads := []func() []script.Step{
		func() []script.Step { return nil },
		func() []script.Step { return steps(disk(64)) },
		func() []script.Step { return laid(store) },
	}
	lines, disks := map[string]int{}, 0
	for i := range 150 {
		l := heads[i%len(heads)]()
		for range 20 * (i % 2) {
			l = append(l, anyPut(r, writes))
		}
		l = append(l, anyPlay(r, r.Intn(40), writes)...)
		asPlayed(t, l)
		whole := script.Play(l)
		if len(whole) != len(l) {
			t.Fatalf("P30.4: %d lines of %d steps", len(whole), len(l))
		}
		for k := range len(l) + 1 {
			if got := script.Play(l[:k]); !slices.Equal(got, whole[:k]) {
				t.Fatalf("P30.6: the first %d of %v: %q, want %q", k, kindsOf(l), got, whole[:k])
			}
			if k < len(l) && taken(l[k]) {
				disks++
				if got := script.Play(l[k:]); !slices.Equal(got, whole[k:]) {
					t.Fatalf("P30.6: behind %d of %v: %q, want %q", k, kindsOf(l), got, whole[k:])
				}
			}
		}
		for _, line := range whole {
			words := strings.Fields(line)
			lines[strings.Join(words[:min(2, len(words))], " ")]++
			for _, w := range words {
				if w == "get" || w == "drop" {
					lines[w]++
				}
			}
		}
	}
	for _, what := range []string{"ok", "ok clean", "ok repaired", "get", "drop", "no 1", "no 20", "no 21", "no 22"} {
		if lines[what] < 20 {
			t.Errorf("%s: too few to tell: %v", what, lines)
		}
	}
	if disks < 50 {
		t.Errorf("too few disks to tell: %d", disks)
	}
}

// P30.6: any two scripts, one behind the other; the second one with a Disk at its head or without.
func TestOneBehindTheOther(t *testing.T) {
	r := rand.New(rand.NewSource(303))
	writes := pool(t)
	for range 150 {
		l, m := anyPlay(r, r.Intn(20), writes), anyPlay(r, r.Intn(20), writes)
		first, whole := script.Play(l), script.Play(both(l, m))
		if len(whole) != len(l)+len(m) || !slices.Equal(whole[:len(l)], first) {
			t.Fatalf("P30.6: %q, want %q ahead", whole, first)
		}
		for _, n := range []int{64, 65, 200, 1024} {
			fresh := append(steps(disk(n)), m...)
			if got := script.Play(both(l, fresh))[len(l):]; !slices.Equal(got, script.Play(fresh)) {
				t.Fatalf("P30.6: behind a disk of %d: %q", n, got)
			}
		}
		for _, n := range []int{0, 63, 1025, -5} {
			refused := append(steps(disk(n)), m...)
			want := slices.Insert(slices.Clone(whole), len(l), "no 22")
			if got := script.Play(both(l, refused)); !slices.Equal(got, want) {
				t.Fatalf("P30.6: behind a disk of %d, which is refused: %q, want %q", n, got, want)
			}
		}
	}
}

// P6, P8 as scripts tell them: any stops, one behind the other, each with whatever lasted: the run behind them is whole, and what it leaves is clean.
func TestStopsAsText(t *testing.T) {
	r := rand.New(rand.NewSource(304))
	writes := pool(t)
	for range 60 {
		var text strings.Builder
		fmt.Fprintf(&text, "disk %d\n", 64+r.Intn(20))
		for range r.Intn(30) {
			s := anyPut(r, writes)
			fmt.Fprintf(&text, "put %d %x\n", max(0, s.N), s.Data)
		}
		text.WriteString("flush\n")
		for range r.Intn(6) {
			fmt.Fprintf(&text, "stop %d\nrun %d\nrestart %s\n", r.Intn(30), r.Intn(9), fmt.Sprintf("%0*b", 1+r.Intn(9), r.Intn(2)))
		}
		text.WriteString("run 1\nrun 1\naudit 1\n")
		got, e := script.Report(text.String())
		if e != api.OK || !strings.HasSuffix(got, "\nok clean\nok clean\n") {
			t.Errorf("%q: %q, %d", short(text.String()), short(got), e)
		}
	}
}
