package script_test

import (
	"math/rand"
	"slices"
	"strings"
	"sync"
	"testing"

	"assay/api"
	"assay/script"
)

// scribble writes into a list and into its spare room, and appends to it several times, as a caller may.
func scribble[T any](l []T, v T) {
	l = l[:cap(l)]
	for i := range l {
		l[i] = v
	}
	for range 40 {
		l = append(l, v)
	}
}

// deep is steps that share nothing with others.
func deep(l []script.Step) []script.Step {
	var c []script.Step
	for _, s := range l {
		s.Last = slices.Clone(s.Last)
		c = append(c, s)
	}
	return c
}

// roomy is steps of all kinds with room behind them, and lists of truths with room behind them; the room is full of steps and truths too.
func roomy() []script.Step {
	_, l := sevenLines()
	room := slices.Concat(mended(), l, l, steps(put(20, torn()), restart(true), run(1), audit(2)))
	truths := slices.Repeat([]bool{true, false, false, true, true}, 40)
	for i := range room {
		room[i].Last = truths[7*i : 7*i+i%4]
	}
	return room[:len(room)-4]
}

// P2: steps that are handed in stay as they were, with the room behind them; so do their lists of truths.
func TestTheStepsStay(t *testing.T) {
	l := roomy()
	was := deep(l[:cap(l)])
	truths := slices.Clone(l[0].Last[:200])
	check := func(what string) {
		t.Helper()
		if !same(l[:cap(l)], was) || !slices.Equal(l[0].Last[:200], truths) {
			t.Errorf("P2: %s: what was handed in has changed", what)
		}
	}
	for range 3 {
		if _, e := script.Text(l); e != api.OK {
			t.Fatal(e)
		}
		check("Text")
		if got := script.Play(l); !slices.Equal(got, played(was[:len(l)])) {
			t.Fatal(got)
		}
		check("Play")
	}
	for _, bad := range steps(script.Step{}, run(-1), stop(1<<31), disk(7)) {
		l[1], was[1] = bad, bad
		script.Text(l)
		check("Text of a wrong step")
		script.Play(l)
		check("Play of a wrong step")
	}
	far := restart(make([]bool, 65536, 70000)...)
	script.Text(steps(far))
	script.Play(steps(disk(64), far))
	if slices.Contains(far.Last[:cap(far.Last)], true) {
		t.Error("P2: the far list has changed")
	}
}

// P2: what is handed in isn't kept: it may be written over behind the call.
func TestTheStepsAreNotKept(t *testing.T) {
	l := roomy()
	wantText, e := script.Text(l)
	if e != api.OK {
		t.Fatal(e)
	}
	wantLines := slices.Clone(script.Play(l))
	again := deep(l)
	lines := script.Play(l)
	text, _ := script.Text(l)
	for i := range l {
		scribble(l[i].Last, true)
	}
	scribble(l, put(5, torn()))
	if text != wantText || !slices.Equal(lines, wantLines) {
		t.Error("P2: an answer has turned")
	}
	if got, _ := script.Text(again); got != wantText || !slices.Equal(script.Play(again), wantLines) {
		t.Error("P2: a later answer is another")
	}
}

// P2: steps and lists of truths that are handed out are new memory: written over and grown, and no other answer turns.
func TestAnswersAreNewMemory(t *testing.T) {
	lines, want := sevenLines()
	text := strings.Join(lines, "") + "restart 01\nrestart 1\nrestart -\nrestart 11\n"
	want = append(want, restart(false, true), restart(true), restart(), restart(true, true))
	for i := range want {
		one, _, _ := script.Parse(text)
		two, _, _ := script.Parse(text)
		scribble(one[i].Last, true)
		scribble(one[i].Last, false)
		for k, s := range one {
			if k != i && !sameStep(s, want[k]) {
				t.Fatalf("P2: step %d has turned with step %d", k, i)
			}
		}
		scribble(one[:i], script.Step{Kind: 9, Last: []bool{true}})
		scribble(one, script.Step{Kind: 9, N: i})
		if !same(two, want) {
			t.Fatalf("P2: another answer has turned with step %d", i)
		}
		parses(t, text, want...)
	}
	first, second := script.Play(mended()), script.Play(mended())
	for range 3 {
		scribble(first, "x")
		scribble(first[:1], "y")
		if !slices.Equal(second, []string{"ok", zeroDisk}) || !slices.Equal(script.Play(mended()), second) {
			t.Error("P2: other lines have turned")
		}
	}
}

// P3, P5: no call leaves anything for the next one: not a device, not a stop.
func TestNothingIsKept(t *testing.T) {
	for range 3 {
		plays(t, steps(flush()), "no 1")
		plays(t, steps(disk(64), put(20, torn()), stop(0), flush()), "ok", "ok", "ok", "no 21")
		plays(t, steps(flush(), audit(1), restart()), "no 1", "no 1", "no 1")
		reports(t, "disk 64\nflush\n", "ok\nok\n")
		refuses(t, "disk 64\nx\n", 2, api.ErrLine)
	}
}

// P3: the same call answers the same, however often, in whatever order, and from several goroutines at once.
func TestTheSameAnswers(t *testing.T) {
	r := rand.New(rand.NewSource(306))
	writes := pool(t)
	type told struct {
		l     []script.Step
		lines []string
		text  string
		e     api.Errno
		again string
	}
	var all []told
	for range 24 {
		c := told{l: anyPlay(r, 30, writes)}
		c.lines = script.Play(c.l)
		c.text, c.e = script.Text(c.l)
		c.again, _ = script.Report(c.text)
		all = append(all, c)
	}
	var wg sync.WaitGroup
	for range 6 {
		wg.Go(func() {
			for _, c := range all {
				text, e := script.Text(c.l)
				report, _ := script.Report(text)
				if text != c.text || e != c.e || report != c.again || !slices.Equal(script.Play(c.l), c.lines) {
					t.Errorf("P3: %v: another answer", kindsOf(c.l))
				}
			}
		})
	}
	wg.Wait()
}
