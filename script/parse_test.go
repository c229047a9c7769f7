package script_test

import (
	"fmt"
	"slices"
	"strings"
	"testing"

	"assay/api"
	"assay/script"
)

// sixty is 128 digits, and the sector that they are.
func sixty() (string, api.Sector) {
	var s api.Sector
	for i := range s {
		s[i] = byte(i*37 + 5)
	}
	return fmt.Sprintf("%x", s[:]), s
}

// sevenLines is one of each line, with the steps.
func sevenLines() ([]string, []script.Step) {
	x, s := sixty()
	return []string{"disk 64\n", "put 3 " + x + "\n", "flush\n", "stop 7\n", "run 1\n", "audit 8\n", "restart 101\n"},
		steps(disk(64), put(3, s), flush(), stop(7), run(1), audit(8), restart(true, false, true))
}

// P30.1: the chapter's examples.
func TestParseExamples(t *testing.T) {
	parses(t, "disk 64\nrun 1\n", disk(64), run(1))
	for _, text := range []string{"disk 64", "disk  64\n", "disk 064\n", "\n", "put 3 00\n", "restart 2\n", "restart \n"} {
		refuses(t, text, 1, api.ErrLine)
	}
	refuses(t, "flush\nFlush\n", 2, api.ErrLine)
	parses(t, "")
}

// P30.1: each line, alone and with all others; what a line doesn't tell is zero.
func TestEachLine(t *testing.T) {
	lines, want := sevenLines()
	for i, line := range lines {
		parses(t, line, want[i])
		for k, other := range lines {
			parses(t, line+other, want[i], want[k])
		}
		refuses(t, line[:len(line)-1], 1, api.ErrLine)
		refuses(t, line+line[:len(line)-1], 2, api.ErrLine)
	}
	parses(t, strings.Join(lines, ""), want...)
	parses(t, "restart -\n", restart())
	l, _, _ := script.Parse(strings.Join(lines, "") + "restart -\n")
	for i, s := range l {
		if s.Kind != script.Put && s.Data != (api.Sector{}) || s.Kind != script.Restart && len(s.Last) > 0 || (s.Kind == script.Flush || s.Kind == script.Restart) && s.N != 0 {
			t.Errorf("P30.1: step %d: %v", i, s)
		}
	}
}

// P30.1: a text of just MaxText bytes, and of one more: that comes ahead of any line that is none.
func TestMaxText(t *testing.T) {
	most := "restart " + times(65527, "1") + "\n"
	parses(t, most, restart(slices.Repeat([]bool{true}, 65527)...))
	refuses(t, most+"\n", 0, api.ErrLong)
	refuses(t, "restart 1"+most[8:], 0, api.ErrLong)
	x, s := sixty()
	line := "put 1000 " + x + "\n"
	n := 65536 / len(line)
	spare := 65536 - n*len(line) // restart and so many truths
	last := "restart " + times(spare-9, "0") + "\n"
	want := append(slices.Repeat(steps(put(1000, s)), n), restart(make([]bool, spare-9)...))
	parses(t, times(n, line)+last, want...)
	refuses(t, times(n, line)+"restart 0"+last[8:], 0, api.ErrLong)
	for _, b := range []string{"x", "\n", " ", "\x00", "\xff"} {
		refuses(t, times(65536, b), 1, api.ErrLine)
		refuses(t, times(65537, b), 0, api.ErrLong)
		refuses(t, times(1<<20, b), 0, api.ErrLong)
		refuses(t, most[:65535]+b+"\n", 0, api.ErrLong)
	}
	refuses(t, "Flush\n"+times(65536, "1"), 0, api.ErrLong)
	refuses(t, times(10923, "flush\n"), 0, api.ErrLong)
	refuses(t, times(10922, "flush\n"), 1025, api.ErrLong)
}

// P30.1: just MaxLines lines, and one more, whatever it is; a line ahead of it that is none comes first.
func TestMaxLines(t *testing.T) {
	most := times(1024, "flush\n")
	parses(t, most, slices.Repeat(steps(flush()), 1024)...)
	for _, more := range []string{"flush\n", "flush", "x", "x\n", "\n", " ", "\n\n\n", "flush\nflush\n", "Flush\nx\n"} {
		refuses(t, most+more, 1025, api.ErrLong)
		for _, k := range []int{0, 1, 500, 1022, 1023} {
			refuses(t, times(k, "flush\n")+"Flush\n"+times(1023-k, "flush\n")+more, k+1, api.ErrLine)
		}
	}
	refuses(t, times(1023, "flush\n")+"flush", 1024, api.ErrLine)
	refuses(t, times(1023, "flush\n")+"x", 1024, api.ErrLine)
	refuses(t, times(5000, "\n"), 1, api.ErrLine)
}

// noLines is lines that are none, without their newlines.
func noLines() []string {
	x, _ := sixty()
	lines := []string{"", " ", "  ", "\t", "\r", "-", "0", "1 1", "x", "disk64", "nothing", "disk 1 flush", "0 disk", "64 disk"}
	for _, right := range []string{"disk 64", "put 3 " + x, "flush", "stop 0", "run 1", "audit 1", "restart -", "restart 1", "restart 01"} {
		lines = append(lines, " "+right, right+" ", "\t"+right, right+"\t", right+"\r", "\r"+right, right+" 1", right+" -", right+" "+right, "x"+right, right+"x", right+"\x00", "\x00"+right, right+"\xff", "\ufeff"+right, right+"\u00a0", right+"\v", right+"\f", right+"#", right+";")
		if w, more, ok := strings.Cut(right, " "); ok {
			lines = append(lines, w, w+" ", w+"  "+more, w+"\t"+more, w+"\u00a0"+more, w+"\r"+more, w+"\v"+more, w+"\x00"+more, w+more, strings.ToUpper(w)+" "+more, strings.ToUpper(w[:1])+w[1:]+" "+more, w[:len(w)-1]+" "+more, w[1:]+" "+more, w+"s "+more, more, " "+more, more+" "+w)
		}
	}
	return append(lines, "Flush", "FLUSH", "flusH", "flus", "lush", "flushed", "f", "put 3", "put", "put "+x, "put "+x+" 3", "put 3 "+x+" 1", "put 3  "+x, "put  "+x, "put 3 3 "+x, "put 3 "+x[:64]+" "+x[64:])
}

// P30.1: lines that are none, alone, behind and ahead of lines that are some, each with its number.
func TestNoLines(t *testing.T) {
	for _, line := range noLines() {
		if _, ok := readLine(line + "\n"); ok {
			t.Fatalf("%q is a line", line)
		}
		if line != "" {
			refuses(t, line, 1, api.ErrLine)
			refuses(t, "flush\n"+line, 2, api.ErrLine)
		}
		for _, behind := range []string{"", "flush\n", "x\n", "\n", "flush"} {
			refuses(t, line+"\n"+behind, 1, api.ErrLine)
			refuses(t, "flush\n"+line+"\n"+behind, 2, api.ErrLine)
			refuses(t, times(40, "disk 64\n")+line+"\n"+behind, 41, api.ErrLine)
		}
	}
}

// P30.1: wholes, behind each word that has one.
func TestWholes(t *testing.T) {
	right := []int{0, 1, 9, 10, 63, 64, 100, 1024, 99999, 1000000000, 2147483646, 2147483647}
	wrong := []string{"2147483648", "2147483649", "2147483650", "2147483700", "2200000000", "3000000000", "4294967295", "4294967296", "4294967360", "9999999999", "10000000000", "21474836470", "9223372036854775807", "9223372036854775808", "18446744073709551615", "18446744073709551616", "18446744073709551680", times(40, "9"), "1" + times(300, "0"), times(60000, "7"),
		"00", "000", "01", "064", "0064", "02147483647", times(20, "0") + "64", "-0", "-1", "+0", "+1", "+64", "--1", "-", "", "0x40", "0b1", "0o7", "1_000", "1,000", "6.4", "64.", ".5", "1e2", "6 4", "64a", "a64", "6a4", "O", "l", "٣", "６４", "6４", "१", "𝟼", "²", "6\x00", "\x006", "6\xb4", "६4", "64\u0301", "NaN", "Inf", "ten"}
	x, s := sixty()
	for _, n := range right {
		parses(t, fmt.Sprintf("disk %d\nstop %d\nrun %d\naudit %d\nput %d %s\n", n, n, n, n, n, x), disk(n), stop(n), run(n), audit(n), put(n, s))
	}
	for _, n := range wrong {
		for _, word := range []string{"disk", "stop", "run", "audit"} {
			refuses(t, word+" "+n+"\n", 1, api.ErrLine)
			refuses(t, "stop 1\n"+word+" "+n+"\nstop 1\n", 2, api.ErrLine)
		}
		refuses(t, "put "+n+" "+x+"\n", 1, api.ErrLine)
	}
	for _, n := range []int{5, 1 << 8, 1 << 16, 1<<31 - 1} {
		for _, more := range []string{"0", "1", "9"} {
			asRead(t, fmt.Sprintf("run %d%s\n", n, more))
			asRead(t, fmt.Sprintf("run %s%d\n", more, n))
		}
	}
}

// P30.1: a put's digits: how many, and which.
func TestDigits(t *testing.T) {
	x, s := sixty()
	parses(t, "put 0 "+x+"\n", put(0, s))
	parses(t, "put 0 "+times(64, "0f")+"\n", put(0, api.Sector(slices.Repeat([]byte{0x0f}, 64))))
	parses(t, "put 0 "+times(64, "f0")+"\n", put(0, api.Sector(slices.Repeat([]byte{0xf0}, 64))))
	parses(t, "put 0 "+times(128, "0")+"\n", put(0, api.Sector{}))
	parses(t, "put 0 "+times(7, "9abcdef012345678")+"8000000000000001\n", put(0, api.Sector(slices.Concat(slices.Repeat([]byte{0x9a, 0xbc, 0xde, 0xf0, 0x12, 0x34, 0x56, 0x78}, 7), []byte{0x80, 0, 0, 0, 0, 0, 0, 1}))))
	for n := range 300 {
		if n != 128 {
			refuses(t, "put 0 "+times(n, "0")+"\n", 1, api.ErrLine)
			refuses(t, "put 0 "+times(n, "a")+"\n", 1, api.ErrLine)
		}
	}
	for at := range 128 {
		for b := range 256 {
			line := "put 0 " + x[:at] + string([]byte{byte(b)}) + x[at+1:] + "\n"
			if b == '\n' {
				refuses(t, line, 1, api.ErrLine)
				continue
			}
			v := strings.Index("0123456789abcdef", string([]byte{byte(b)}))
			if v < 0 {
				if _, n, e := script.Parse(line); n != 1 || e != api.ErrLine {
					t.Fatalf("P30.1: the byte %d at %d: %d, %d", b, at, n, e)
				}
				continue
			}
			want := s
			if at%2 == 0 {
				want[at/2] = want[at/2]&15 | byte(v)<<4
			} else {
				want[at/2] = want[at/2]&0xf0 | byte(v)
			}
			parses(t, line, put(0, want))
		}
	}
	refuses(t, "put 0 "+strings.ToUpper(x)+"\n", 1, api.ErrLine)
	refuses(t, "put 0 "+times(63, "0")+"é"+times(63, "0")+"\n", 1, api.ErrLine)
	refuses(t, "put 0 "+times(64, "é")+"\n", 1, api.ErrLine)
	refuses(t, "put 0 0x"+x[2:]+"\n", 1, api.ErrLine)
}

// P30.1: a restart's truths.
func TestTruths(t *testing.T) {
	parses(t, "restart -\n", restart())
	parses(t, "restart 0\n", restart(false))
	parses(t, "restart 1\n", restart(true))
	for n := 1; n <= 10; n++ {
		for v := range 1 << n {
			var want []bool
			for i := range n {
				want = append(want, v>>(n-1-i)&1 == 1)
			}
			parses(t, fmt.Sprintf("restart %0*b\n", n, v), restart(want...))
		}
	}
	many := times(3000, "0110") + "1"
	l, _, _ := script.Parse("restart " + many + "\n")
	if len(l) != 1 || len(l[0].Last) != 12001 || word(l[0].Last) != many {
		t.Errorf("P30.1: many truths: %d steps", len(l))
	}
	for _, b := range []string{"", "--", "-1", "1-", "1-0", "-0", "2", "12", "21", "1 0", "- 1", "a", "1a", "true", "t", "+", "+1", "_", "1_0", "1,0", "٠", "１", "1１", "\x00", "1\x00", "\xff", "O", "—", "–", "−"} {
		refuses(t, "restart "+b+"\n", 1, api.ErrLine)
		refuses(t, "restart -\nrestart "+b+"\nrestart -\n", 2, api.ErrLine)
	}
}

// P30.1: each byte of each line as any other byte, left out, and doubled; and each of its beginnings and ends.
func TestBytes(t *testing.T) {
	lines, _ := sevenLines()
	for _, line := range append(lines, "restart -\n", "disk 0\n") {
		for at := range line {
			asRead(t, line[:at]+line[at+1:])
			asRead(t, line[:at]+line[at:at+1]+line[at:])
			asRead(t, line[:at])
			asRead(t, line[at:])
			if at > 14 && at < len(line)-3 {
				continue // digits of a put, told byte by byte above
			}
			for b := range 256 {
				asRead(t, line[:at]+string([]byte{byte(b)})+line[at+1:])
				asRead(t, line[:at]+string([]byte{byte(b)})+line[at:])
			}
		}
		for b := range 256 {
			asRead(t, line+string([]byte{byte(b)}))
			asRead(t, line+string([]byte{byte(b)})+"\n")
		}
	}
}

// P30.1: each text of one and of two bytes, alone and behind a line.
func TestShortTexts(t *testing.T) {
	for a := range 256 {
		asRead(t, string([]byte{byte(a)}))
		for b := range 256 {
			text := string([]byte{byte(a), byte(b)})
			if l, n, e := script.Parse(text); len(l) != 0 || n != 1 || e != api.ErrLine {
				t.Fatalf("P30.1: %q: %d, %d", text, n, e)
			}
			if l, n, e := script.Parse("flush\n" + text); len(l) != 0 || n != 2 || e != api.ErrLine {
				t.Fatalf("P30.1: flush and %q: %d, %d", text, n, e)
			}
		}
	}
}
