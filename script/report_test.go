package script_test

import (
	"math/rand"
	"strings"
	"testing"

	"assay/api"
	"assay/script"
)

// P30.5: the error of Parse, and with it no text, wherever it stands: nothing is told of the lines ahead of it.
func TestReportErrors(t *testing.T) {
	for text, want := range map[string]api.Errno{
		"\n": api.ErrLine, "run\n": api.ErrLine, "disk 64": api.ErrLine, "disk 64\nrun 1\nx\n": api.ErrLine, "disk 64\nrun 1": api.ErrLine,
		times(65536, "x"): api.ErrLine, times(65537, "x"): api.ErrLong, times(1025, "flush\n"): api.ErrLong, times(1024, "flush\n") + "x": api.ErrLong,
		times(1023, "flush\n") + "x": api.ErrLine, "disk 64\n" + times(65530, "1"): api.ErrLong,
	} {
		if s, e := script.Report(text); s != "" || e != want {
			t.Errorf("P30.5: %q: %q, %d, want %d", short(text), short(s), e, want)
		}
	}
}

// P30.5: Play's lines, each with a newline.
func TestReportLines(t *testing.T) {
	reports(t, "flush\n", "no 1\n")
	reports(t, "disk 64\n", "ok\n")
	reports(t, times(1024, "flush\n"), times(1024, "no 1\n"))
	reports(t, "disk 1024\n"+times(1023, "flush\n"), times(1024, "ok\n"))
	reports(t, "disk 64\nput 64 "+times(128, "0")+"\nput 63 "+times(128, "0")+"\n", "ok\nno 20\nok\n")
	reports(t, "disk 0\ndisk 2147483647\ndisk 64\nstop 2147483647\nrun 2147483647\naudit 0\nrun 0\n", "no 22\nno 22\nok\nok\n"+zeroDisk+"\nok clean\nok clean\n")
	most := "restart " + times(65519, "1") + "\ndisk 64\n"
	reports(t, most, "no 1\nok\n")
}

// P30.5: texts by chance: Report is Play of Parse.
func TestReportByChance(t *testing.T) {
	r := rand.New(rand.NewSource(305))
	writes := pool(t)
	for range 100 {
		var told []script.Step
		for _, s := range anyPlay(r, r.Intn(30), writes) {
			if _, e := written(steps(s)); e == api.OK {
				told = append(told, s)
			}
		}
		text, _ := written(told)
		want := strings.Join(played(told), "\n")
		if want != "" {
			want += "\n"
		}
		reports(t, text, want)
		if text != "" {
			refuses(t, text+"x", len(told)+1, api.ErrLine)
		}
	}
}
