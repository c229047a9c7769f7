package script_test

import (
	"math"
	"testing"

	"assay/api"
	"assay/script"
)

// mended is the steps to a device of 64 sectors on which nothing is wrong, with all flushed.
func mended() []script.Step { return steps(disk(64), run(1)) }

// behind: behind mended, these steps have these lines.
func behind(t *testing.T, l []script.Step, want ...string) {
	t.Helper()
	plays(t, both(mended(), l), append([]string{"ok", zeroDisk}, want...)...)
}

// P30.4, P30.5: the chapter's examples.
func TestPlayExamples(t *testing.T) {
	reports(t, "disk 64\nrun 1\nrun 1\naudit 3\n", "ok\nok repaired 2:0 2:1 3:0 18:0\nok clean\nok clean\n")
	reports(t, "run 1\ndisk 63\nflush\nstop 0\nrestart -\n", "no 1\nno 22\nno 1\nno 1\nno 1\n")
	reports(t, "disk 64\nstop 0\nrun 1\nflush\nrestart -\nflush\n", "ok\nok\nno 21\nno 21\nok\nok\n")
}

// P30.4: no steps, nil or not.
func TestPlayOfNothing(t *testing.T) {
	for _, l := range [][]script.Step{nil, {}, make([]script.Step, 0, 9)} {
		if got := script.Play(l); len(got) > 0 {
			t.Errorf("P30.4: %v", got)
		}
	}
	reports(t, "", "")
}

// P30.4: each step ahead of any Disk, and behind Disks that were all refused.
func TestAheadOfADisk(t *testing.T) {
	for _, s := range steps(put(0, torn()), put(64, torn()), put(-1, torn()), flush(), stop(0), stop(-1), run(1), run(0), audit(1), audit(-1), restart(), restart(true)) {
		plays(t, steps(s), "no 1")
		plays(t, steps(s, s), "no 1", "no 1")
		plays(t, steps(disk(63), s), "no 22", "no 1")
		plays(t, steps(disk(1025), s, disk(0), s), "no 22", "no 1", "no 22", "no 1")
		plays(t, steps(s, disk(64), audit(1)), "no 1", "ok", zeroDisk)
	}
	plays(t, steps(stop(0), disk(64), flush()), "no 1", "ok", "ok")
}

// P30.4: which Disks are taken; numbers of which no list can be made are refused too.
func TestDisks(t *testing.T) {
	for _, n := range []int{0, 1, 62, 63, 1025, 1026, 2048, 65536, 1<<31 - 1, 1 << 31, 1<<32 + 64, 1 << 40, 1 << 58, 1 << 62, math.MaxInt, -1, -64, -1024, math.MinInt, math.MinInt + 64} {
		plays(t, steps(disk(n)), "no 22")
		plays(t, steps(disk(n), flush()), "no 22", "no 1")
	}
	for n := 64; n <= 1024; n += 15 {
		plays(t, steps(disk(n), put(n-1, torn()), put(n, torn())), "ok", "ok", "no 20")
	}
	plays(t, steps(disk(1024), put(1023, torn()), put(1024, torn())), "ok", "ok", "no 20")
}

// P30.4: a new device is zeros, whatever was ahead of it.
func TestNewDisk(t *testing.T) {
	plays(t, steps(disk(64), audit(1)), "ok", zeroDisk)
	behind(t, steps(disk(64), audit(1), run(1), audit(1)), "ok", zeroDisk, zeroDisk, "ok clean")
	behind(t, steps(put(20, torn()), disk(64), audit(1), restart(true), audit(1)), "ok", "ok", zeroDisk, "ok", zeroDisk)
	behind(t, steps(put(20, torn()), flush(), disk(80), audit(1)), "ok", "ok", "ok", zeroDisk)
	behind(t, steps(stop(0), disk(64), flush(), flush()), "ok", "ok", "ok", "ok")
	behind(t, steps(stop(0), flush(), disk(64), flush(), run(1)), "ok", "no 21", "ok", "ok", zeroDisk)
}

// P30.4: a Disk that is refused: the device stays the one that it was, with its writes, those that are pending, and its stop.
func TestRefusedDisk(t *testing.T) {
	for _, n := range []int{-1, 0, 63, 1025, math.MaxInt} {
		behind(t, steps(put(20, torn()), flush(), disk(n), audit(1)), "ok", "ok", "no 22", "ok repaired 10:0")
		behind(t, steps(put(20, torn()), disk(n), audit(1), restart(), audit(1)), "ok", "no 22", "ok repaired 10:0", "ok", "ok clean")
		behind(t, steps(put(20, torn()), disk(n), restart(true), audit(1)), "ok", "no 22", "ok", "ok repaired 10:0")
		behind(t, steps(put(20, torn()), disk(n), flush(), restart(), audit(1)), "ok", "no 22", "ok", "ok", "ok repaired 10:0")
		behind(t, steps(stop(1), disk(n), flush(), disk(n), flush()), "ok", "no 22", "ok", "no 22", "no 21")
		behind(t, steps(stop(0), flush(), disk(n), flush(), put(0, torn())), "ok", "no 21", "no 22", "no 21", "no 21")
		plays(t, steps(disk(64), disk(n), put(63, torn()), put(64, torn())), "ok", "no 22", "ok", "no 20")
	}
}

// P30.4: a Put: what it writes, and where it can't.
func TestPut(t *testing.T) {
	for _, n := range []int{-1, -64, 64, 65, 1024, 2147483647, 2147483648, math.MinInt, math.MaxInt} {
		behind(t, steps(put(n, torn()), audit(1)), "no 20", "ok clean")
	}
	behind(t, steps(put(20, torn()), audit(1), put(20, api.Sector{}), audit(1)), "ok", "ok repaired 10:0", "ok", "ok clean")
	behind(t, steps(put(0, torn()), put(1, torn()), put(2, torn()), audit(1)), "ok", "ok", "ok", "ok repaired 1:0 2:0 2:1")
	behind(t, steps(put(11, torn()), put(12, torn()), put(19, torn()), put(23, torn()), put(24, torn()), put(27, torn()), put(28, torn()), put(29, torn()), put(63, torn()), audit(1)),
		"ok", "ok", "ok", "ok", "ok", "ok", "ok", "ok", "ok", "ok repaired 3:0 5:0 5:7 10:3 13:0 13:3 18:0")
	// A put outside of the disk counts in no stop.
	behind(t, steps(stop(1), put(64, torn()), put(-1, torn()), put(20, torn()), put(64, torn()), put(20, torn()), put(64, torn())), "ok", "no 20", "no 20", "ok", "no 20", "no 21", "no 21")
}

// P30.4: all bytes of a put are written: each counts in the sum of a superblock.
func TestAllBytesOfAPut(t *testing.T) {
	super := superOf(64)
	behind(t, steps(put(0, super), audit(1)), "ok", "ok clean")
	for at := range super {
		other := super
		other[at] ^= 1 << (at % 8)
		behind(t, steps(put(0, other), audit(1), put(1, other), put(0, super), audit(1)), "ok", "ok repaired 2:0", "ok", "ok", "ok repaired 2:1")
	}
}

// P30.4: Stop with none, one and many acts, and below zero.
func TestStop(t *testing.T) {
	behind(t, steps(stop(0), audit(1), put(0, torn()), audit(1)), "ok", "ok clean", "no 21", "ok clean")
	behind(t, steps(stop(0), flush()), "ok", "no 21")
	behind(t, steps(stop(1), put(20, torn()), flush(), flush(), put(20, torn()), restart(true), audit(1)), "ok", "ok", "no 21", "no 21", "no 21", "ok", "ok repaired 10:0")
	behind(t, steps(stop(1), flush(), flush()), "ok", "ok", "no 21")
	behind(t, steps(stop(3), flush(), flush(), flush(), flush()), "ok", "ok", "ok", "ok", "no 21")
	for _, n := range []int{50, 1024, 2147483647, 2147483648, math.MaxInt} {
		behind(t, steps(stop(n), flush(), flush(), run(1)), "ok", "ok", "ok", "ok clean")
	}
	for _, n := range []int{-1, -2, -2147483648, math.MinInt} {
		behind(t, steps(stop(n), flush(), put(20, torn()), run(1), run(1)), "ok", "ok", "ok", "ok repaired 10:0", "ok clean")
		behind(t, steps(stop(0), stop(n), flush(), flush()), "ok", "ok", "ok", "ok")
	}
	behind(t, steps(stop(0), stop(2), flush(), flush(), flush()), "ok", "ok", "ok", "ok", "no 21")
	behind(t, steps(stop(5), stop(0), flush()), "ok", "ok", "no 21")
	behind(t, steps(stop(0), run(1)), "ok", "ok clean") // it only reads
}

// P30.4: every act of a device that has stopped.
func TestStopped(t *testing.T) {
	down := steps(put(20, torn()), stop(0), flush())
	lines := []string{"ok", "ok", "no 21"}
	for _, c := range []struct {
		s    script.Step
		want string
	}{
		{put(20, torn()), "no 21"}, {put(64, torn()), "no 21"}, {put(-1, torn()), "no 21"}, {flush(), "no 21"}, {run(1), "no 21"}, {run(0), "no 21"},
		{audit(1), "ok repaired 10:0"}, {audit(-3), "ok repaired 10:0"}, {stop(0), "ok"}, {stop(9), "ok"}, {stop(-1), "ok"}, {disk(9), "no 22"}, {script.Step{Kind: 8}, "no 1"},
	} {
		// It is down still, with what is pending.
		behind(t, both(down, steps(c.s, flush(), c.s, put(21, torn()), audit(2))), append(append([]string{}, lines...), c.want, "no 21", c.want, "no 21", "ok repaired 10:0")...)
		behind(t, both(down, steps(c.s, restart(), audit(1), flush(), flush(), flush())), append(append([]string{}, lines...), c.want, "ok", "ok clean", "ok", "ok", "ok")...)
		behind(t, both(down, steps(c.s, restart(true), audit(1), run(1))), append(append([]string{}, lines...), c.want, "ok", "ok repaired 10:0", "ok repaired 10:0")...)
	}
	behind(t, both(down, steps(disk(64), audit(1), flush())), append(append([]string{}, lines...), "ok", zeroDisk, "ok")...)
}

// P30.4: Restart with fewer and more truths than there are pending writes.
func TestRestart(t *testing.T) {
	three := steps(put(20, torn()), put(21, torn()), put(20, api.Sector{}))
	for _, c := range []struct {
		last []bool
		want string
	}{
		{nil, "ok clean"}, {[]bool{}, "ok clean"}, {[]bool{false}, "ok clean"}, {[]bool{true}, "ok repaired 10:0"},
		{[]bool{true, true}, "ok repaired 10:0 10:1"}, {[]bool{false, true}, "ok repaired 10:1"}, {[]bool{true, false}, "ok repaired 10:0"},
		{[]bool{true, true, true}, "ok repaired 10:1"}, {[]bool{true, true, false}, "ok repaired 10:0 10:1"}, {[]bool{true, false, true}, "ok clean"},
		{[]bool{false, false, true}, "ok clean"}, {[]bool{true, false, true, false, true, true}, "ok clean"}, {[]bool{true, true, false, true, true}, "ok repaired 10:0 10:1"},
		{make([]bool, 3000), "ok clean"}, {append([]bool{false, true}, make([]bool, 3000)...), "ok repaired 10:1"},
	} {
		for _, ahead := range [][]script.Step{nil, steps(stop(0), flush())} {
			var lines []string
			if ahead != nil {
				lines = []string{"ok", "no 21"}
			}
			lines = append([]string{"ok", "ok", "ok"}, lines...)
			behind(t, both(both(three, ahead), steps(restart(c.last...), audit(1), flush(), audit(1))), append(lines, "ok", c.want, "ok", c.want)...)
			behind(t, both(both(three, ahead), steps(restart(c.last...), restart(true, true, true), audit(1))), append(lines, "ok", "ok", c.want)...)
		}
	}
	behind(t, steps(restart(), restart(true, false), audit(1)), "ok", "ok", "ok clean")
	behind(t, steps(stop(0), restart(), flush(), flush()), "ok", "ok", "ok", "ok")
}

// P30.4: what is flushed lasts, whatever the truths.
func TestFlush(t *testing.T) {
	behind(t, steps(put(20, torn()), flush(), put(21, torn()), restart(), audit(1)), "ok", "ok", "ok", "ok", "ok repaired 10:0")
	behind(t, steps(put(20, torn()), flush(), put(20, api.Sector{}), restart(false), audit(1)), "ok", "ok", "ok", "ok", "ok repaired 10:0")
	behind(t, steps(flush(), flush(), audit(1)), "ok", "ok", "ok clean")
}

// P30.4: steps of a kind that is none do nothing, with a device and without.
func TestPlayNoKinds(t *testing.T) {
	for _, kind := range []int{0, -1, -7, 8, 9, 100, 257, 1<<32 + 1, math.MaxInt, math.MinInt} {
		s := script.Step{Kind: kind, N: 64, Data: torn(), Last: []bool{true, true}}
		plays(t, steps(s), "no 1")
		plays(t, steps(s, flush(), s), "no 1", "no 1", "no 1")
		behind(t, steps(put(20, torn()), s, audit(1), restart(), audit(1), s), "ok", "no 1", "ok repaired 10:0", "ok", "ok clean", "no 1")
		behind(t, steps(stop(1), s, s, flush(), s, flush(), s), "ok", "no 1", "no 1", "ok", "no 1", "no 21", "no 1")
	}
}

// P30.4: a step's line has nothing to do with what the line doesn't tell.
func TestWhatALineDoesNotTell(t *testing.T) {
	other := func(s script.Step) script.Step {
		if s.Kind == script.Flush || s.Kind == script.Restart {
			s.N = -5
		}
		if s.Kind != script.Put {
			s.Data = torn()
		}
		if s.Kind != script.Restart {
			s.Last = []bool{true, true, true}
		}
		return s
	}
	l := both(mended(), steps(put(20, torn()), stop(3), audit(1), flush(), put(21, torn()), run(1), restart(true), audit(1), run(1), run(1)))
	var m []script.Step
	for _, s := range l {
		m = append(m, other(s))
	}
	want := []string{"ok", zeroDisk, "ok", "ok", "ok repaired 10:0", "ok", "ok", "no 21", "ok", "ok repaired 10:0 10:1", "ok repaired 10:0 10:1", "ok clean"}
	plays(t, l, want...)
	plays(t, m, want...)
}
