package script_test

import (
	"slices"
	"strings"
	"testing"

	"assay/api"
	"assay/script"
)

// Steps, in short.
func disk(n int) script.Step                { return script.Step{Kind: script.Disk, N: n} }
func put(n int, s api.Sector) script.Step   { return script.Step{Kind: script.Put, N: n, Data: s} }
func flush() script.Step                    { return script.Step{Kind: script.Flush} }
func stop(n int) script.Step                { return script.Step{Kind: script.Stop, N: n} }
func run(n int) script.Step                 { return script.Step{Kind: script.Run, N: n} }
func audit(n int) script.Step               { return script.Step{Kind: script.Audit, N: n} }
func restart(l ...bool) script.Step         { return script.Step{Kind: script.Restart, Last: l} }
func steps(l ...script.Step) []script.Step  { return l }
func both(l, m []script.Step) []script.Step { return slices.Concat(l, m) }
func times(n int, line string) string       { return strings.Repeat(line, n) }

// zeroDisk is what is wrong with 64 sectors of zeros.
const zeroDisk = "ok repaired 2:0 2:1 3:0 18:0"

// torn is a sector that no table has, in any place.
func torn() api.Sector { return api.Sector{7, 7, 7} }

// sameStep tells whether two steps are: a list without elements may be nil or not.
func sameStep(a, b script.Step) bool {
	return a.Kind == b.Kind && a.N == b.N && a.Data == b.Data && slices.Equal(a.Last, b.Last)
}

func same(a, b []script.Step) bool { return slices.EqualFunc(a, b, sameStep) }

// short is a text that a message can hold.
func short(text string) string {
	if len(text) > 300 {
		return text[:200] + " .. " + text[len(text)-90:]
	}
	return text
}

// parses: Parse answers just these steps.
func parses(t *testing.T, text string, want ...script.Step) {
	t.Helper()
	if l, n, e := script.Parse(text); !same(l, want) || n != 0 || e != api.OK {
		t.Errorf("P30.1: Parse(%q): %d steps, %d, %d, want %d steps", short(text), len(l), n, e, len(want))
	}
}

// refuses: Parse answers no steps, this line and this error; and so Report answers the error, and no text.
func refuses(t *testing.T, text string, line int, want api.Errno) {
	t.Helper()
	if l, n, e := script.Parse(text); len(l) != 0 || n != line || e != want {
		t.Errorf("P30.1: Parse(%q): %d steps, %d, %d, want %d, %d", short(text), len(l), n, e, line, want)
	}
	if s, e := script.Report(text); s != "" || e != want {
		t.Errorf("P30.5: Report(%q): %q, %d, want %d", short(text), short(s), e, want)
	}
}

// asRead: Parse answers what the second reading does.
func asRead(t *testing.T, text string) {
	t.Helper()
	if _, line, e := read(text); e != api.OK {
		if l, n, got := script.Parse(text); len(l) != 0 || n != line || got != e {
			t.Errorf("P30.1: Parse(%q): %d steps, %d, %d, want %d, %d", short(text), len(l), n, got, line, e)
		}
		return
	}
	want, _, _ := read(text)
	parses(t, text, want...)
}

// tells: Text answers this.
func tells(t *testing.T, l []script.Step, want string, wanted api.Errno) {
	t.Helper()
	if s, e := script.Text(l); s != want || e != wanted {
		t.Errorf("P30.2: Text of %d steps: %q, %d, want %q, %d", len(l), short(s), e, short(want), wanted)
	}
}

// plays: Play answers just these lines, and the second reading says so too; and Report answers them of the text, if there is one.
func plays(t *testing.T, l []script.Step, want ...string) {
	t.Helper()
	if got := script.Play(l); !slices.Equal(got, want) {
		t.Errorf("P30.4: Play of %v:\n%s\nwant\n%s", kindsOf(l), strings.Join(got, "\n"), strings.Join(want, "\n"))
	}
	if got := played(l); !slices.Equal(got, want) {
		t.Errorf("the second reading of %v:\n%s\nwant\n%s", kindsOf(l), strings.Join(got, "\n"), strings.Join(want, "\n"))
	}
	text, e := script.Text(l)
	if e != api.OK {
		return
	}
	all := ""
	for _, line := range want {
		all += line + "\n"
	}
	reports(t, text, all)
}

// reports: Report answers this text.
func reports(t *testing.T, text, want string) {
	t.Helper()
	if s, e := script.Report(text); s != want || e != api.OK {
		t.Errorf("P30.5: Report(%q): %q, %d, want %q", short(text), short(s), e, short(want))
	}
}

// asPlayed: Play answers what the second reading does.
func asPlayed(t *testing.T, l []script.Step) {
	t.Helper()
	plays(t, l, played(l)...)
}

// kindsOf is the kinds and numbers of steps.
func kindsOf(l []script.Step) [][2]int {
	var k [][2]int
	for _, s := range l {
		k = append(k, [2]int{s.Kind, s.N})
	}
	return k
}
