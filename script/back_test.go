package script_test

import (
	"math/rand"
	"slices"
	"strings"
	"testing"

	"assay/api"
	"assay/script"
)

// bare is steps with zeros in what their lines don't tell.
func bare(l []script.Step) []script.Step {
	var told []script.Step
	for _, s := range l {
		b := script.Step{Kind: s.Kind}
		if s.Kind != script.Flush && s.Kind != script.Restart {
			b.N = s.N
		}
		if s.Kind == script.Put {
			b.Data = s.Data
		}
		if s.Kind == script.Restart {
			b.Last = s.Last
		}
		told = append(told, b)
	}
	return told
}

// thereAndBack: P30.3, from steps on: these are told whatever they are.
func thereAndBack(t *testing.T, l []script.Step) {
	t.Helper()
	text, e := script.Text(l)
	want, wanted := written(l)
	if text != want || e != wanted {
		t.Fatalf("P30.2: %v: %q, %d, want %q, %d", kindsOf(l), short(text), e, short(want), wanted)
	}
	if e != api.OK {
		return
	}
	back, n, e := script.Parse(text)
	if !same(back, bare(l)) || n != 0 || e != api.OK {
		t.Fatalf("P30.3: %q: %d steps, %d, %d", short(text), len(back), n, e)
	}
	if again, e := script.Text(back); again != text || e != api.OK {
		t.Fatalf("P30.3: %q: %q, %d", short(text), short(again), e)
	}
}

// P30.3: of each line, of all of them, and of the greatest texts.
func TestThereAndBack(t *testing.T) {
	lines, l := sevenLines()
	thereAndBack(t, nil)
	thereAndBack(t, l)
	for i, s := range l {
		thereAndBack(t, steps(s))
		full := script.Step{Kind: s.Kind, N: 2147483647, Data: torn(), Last: []bool{false, true}}
		thereAndBack(t, steps(full, s, full))
		thereAndBack(t, slices.Repeat(steps(s), 1024))
		parses(t, lines[i], s)
		tells(t, steps(s), lines[i], api.OK)
	}
	thereAndBack(t, steps(restart(make([]bool, 65527)...)))
	thereAndBack(t, slices.Repeat(steps(restart(true, true)), 1024))
}

// anyNumber is mostly a whole.
func anyNumber(r *rand.Rand) int {
	switch r.Intn(12) {
	case 0:
		return 1 << r.Intn(31)
	case 1:
		return 1<<(1+r.Intn(31)) - 1
	case 2:
		return r.Intn(1 << 31)
	}
	return r.Intn(70)
}

// anyStep is a step by chance, with all that a step may have; a wrong one, if so much is wrong.
func anyStep(r *rand.Rand, wrong bool) script.Step {
	s := script.Step{Kind: 1 + r.Intn(7), N: anyNumber(r)}
	r.Read(s.Data[:])
	for range r.Intn(20) {
		s.Last = append(s.Last, r.Intn(2) == 1)
	}
	if wrong {
		switch r.Intn(3) {
		case 0:
			s.Kind = r.Intn(1<<r.Intn(30)) * (2*r.Intn(2) - 1)
		case 1:
			s.N = -s.N
		case 2:
			s.N += 1 << 31
		}
	}
	return s
}

// P30.2, P30.3: steps by chance, right ones and wrong ones; few, many and too many, of short lines and of long ones.
func TestThereAndBackByChance(t *testing.T) {
	r := rand.New(rand.NewSource(300))
	most := []int{5, 5, 5, 40, 40, 400, 900}
	ends := map[api.Errno]int{}
	for i := range 700 {
		n := r.Intn(1 + most[i%len(most)])
		if i%20 == 0 {
			n = 1000 + r.Intn(50)
		}
		var l []script.Step
		for range n {
			s := anyStep(r, r.Intn(2000) == 0)
			if i%3 == 0 && r.Intn(2) == 0 {
				s.Kind = script.Put
			}
			l = append(l, s)
		}
		thereAndBack(t, l)
		_, e := script.Text(l)
		ends[e]++
	}
	for _, e := range []api.Errno{api.OK, api.ErrArg, api.ErrLong} {
		if ends[e] < 10 {
			t.Errorf("too few to tell: %v", ends)
		}
	}
}

// anyText is a text by chance, of words and signs that lines have.
func anyText(r *rand.Rand) string {
	x, _ := sixty()
	parts := []string{"disk", "put", "flush", "stop", "run", "audit", "restart", " ", " ", " ", " ", "\n", "\n", "\n", "0", "1", "64", "07", "-", "101", x, x[1:], "2147483647", "2147483648", "x", "\t", "\r\n", "\x00", "\xff", "é"}
	var text strings.Builder
	for range r.Intn(12) {
		text.WriteString(parts[r.Intn(len(parts))])
	}
	return text.String()
}

// P30.1, P30.3: texts by chance: mostly right ones, some with one thing changed, and ones of any parts.
func TestTextsByChance(t *testing.T) {
	r := rand.New(rand.NewSource(301))
	right, wrong := 0, 0
	for range 20000 {
		text := anyText(r)
		if r.Intn(2) == 0 {
			var l []script.Step
			for range r.Intn(9) {
				l = append(l, anyStep(r, false))
			}
			text, _ = written(l)
			if at := r.Intn(1 + len(text)); r.Intn(2) == 0 {
				text = text[:at] + anyText(r) + text[at:]
			}
		}
		asRead(t, text)
		l, _, e := script.Parse(text)
		if e != api.OK {
			wrong++
			continue
		}
		right++
		if back, e := script.Text(l); back != text || e != api.OK {
			t.Fatalf("P30.3: %q: %q, %d", text, back, e)
		}
	}
	if right < 1000 || wrong < 1000 {
		t.Errorf("too few to tell: %d, %d", right, wrong)
	}
}
