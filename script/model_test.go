package script_test

import (
	"encoding/hex"
	"fmt"
	"math/big"
	"regexp"
	"strings"

	"assay/api"
	"assay/device"
	"assay/drive"
	"assay/script"
)

// What chapter 30 says, once more: lines by a pattern and by the library's formats, steps by calls to device and drive.

// pattern is the chapter's seven lines.
var pattern = regexp.MustCompile(`^(?:(disk|stop|run|audit) (0|[1-9][0-9]*)|put (0|[1-9][0-9]*) ([0-9a-f]{128})|(flush)|restart (-|[01]+))\n$`)

// numbered is the kinds whose lines are a word and a number.
var numbered = map[string]int{"disk": script.Disk, "stop": script.Stop, "run": script.Run, "audit": script.Audit}

// readWhole is a whole of digits without a zero in front.
func readWhole(s string) (int, bool) {
	n, ok := new(big.Int).SetString(s, 10)
	if !ok || n.Cmp(big.NewInt(2147483647)) > 0 {
		return 0, false
	}
	return int(n.Int64()), true
}

// readLine is the step of a line.
func readLine(line string) (script.Step, bool) {
	m := pattern.FindStringSubmatch(line)
	switch {
	case m == nil:
		return script.Step{}, false
	case m[5] != "":
		return script.Step{Kind: script.Flush}, true
	case m[6] == "-":
		return script.Step{Kind: script.Restart}, true
	case m[6] != "":
		s := script.Step{Kind: script.Restart}
		for _, r := range m[6] {
			s.Last = append(s.Last, r == '1')
		}
		return s, true
	case m[1] != "":
		n, ok := readWhole(m[2])
		return script.Step{Kind: numbered[m[1]], N: n}, ok
	}
	n, ok := readWhole(m[3])
	s := script.Step{Kind: script.Put, N: n}
	_, err := hex.Decode(s.Data[:], []byte(m[4]))
	return s, ok && err == nil
}

// read is P30.1.
func read(text string) ([]script.Step, int, api.Errno) {
	if len(text) > 65536 {
		return nil, 0, api.ErrLong
	}
	lines := strings.SplitAfter(text, "\n")
	if lines[len(lines)-1] == "" {
		lines = lines[:len(lines)-1]
	}
	var l []script.Step
	for i, line := range lines {
		if i == 1024 {
			return nil, 1025, api.ErrLong
		}
		s, ok := readLine(line)
		if !ok {
			return nil, i + 1, api.ErrLine
		}
		l = append(l, s)
	}
	return l, 0, api.OK
}

// written is P30.2.
func written(l []script.Step) (string, api.Errno) {
	if len(l) > 1024 {
		return "", api.ErrLong
	}
	var text strings.Builder
	for _, s := range l {
		bad := s.N < 0 || s.N > 2147483647
		switch s.Kind {
		case script.Disk:
			fmt.Fprintf(&text, "disk %d\n", s.N)
		case script.Put:
			fmt.Fprintf(&text, "put %d %x\n", s.N, s.Data[:])
		case script.Stop:
			fmt.Fprintf(&text, "stop %d\n", s.N)
		case script.Run:
			fmt.Fprintf(&text, "run %d\n", s.N)
		case script.Audit:
			fmt.Fprintf(&text, "audit %d\n", s.N)
		case script.Flush:
			text.WriteString("flush\n")
			bad = false
		case script.Restart:
			text.WriteString("restart " + word(s.Last) + "\n")
			bad = false
		default:
			bad = true
		}
		if bad {
			return "", api.ErrArg
		}
	}
	if text.Len() > 65536 {
		return "", api.ErrLong
	}
	return text.String(), api.OK
}

// word is truths as a line tells them.
func word(l []bool) string {
	if len(l) == 0 {
		return "-"
	}
	return strings.NewReplacer("true", "1", "false", "0", " ", "", "[", "", "]", "").Replace(fmt.Sprint(l))
}

// played is P30.4.
func played(l []script.Step) []string {
	var d *device.Device
	var lines []string
	for _, s := range l {
		told, e := "", api.ErrArg
		var r api.Report
		switch {
		case s.Kind == script.Disk:
			e = api.ErrSize
			if s.N >= 64 && s.N <= 1024 {
				d, e = device.New(make([]api.Sector, s.N))
			}
		case d == nil:
		case s.Kind == script.Put:
			e = d.Write(s.N, s.Data)
		case s.Kind == script.Flush:
			e = d.Flush()
		case s.Kind == script.Stop:
			d.Stop(s.N)
			e = api.OK
		case s.Kind == script.Run:
			r, e = drive.Run(d, s.N)
			told = toldOf(r)
		case s.Kind == script.Audit:
			r, e = drive.Audit(d.Sectors(), s.N)
			told = toldOf(r)
		case s.Kind == script.Restart:
			d.Restart(s.Last...)
			e = api.OK
		}
		if e != api.OK {
			lines = append(lines, fmt.Sprintf("no %d", int(e)))
			continue
		}
		lines = append(lines, "ok"+told)
	}
	return lines
}

// toldOf is a report's parts, each with a blank ahead of it.
func toldOf(r api.Report) string {
	told := map[int]string{api.Clean: " clean", api.Repaired: " repaired"}[r.Status]
	for _, f := range r.Findings {
		told += fmt.Sprintf(" %d:%d", f.Kind, f.At)
	}
	for _, d := range r.Fetch {
		told += fmt.Sprintf(" get %x", d[:4])
	}
	for _, slot := range r.Dropped {
		told += fmt.Sprintf(" drop %d", slot)
	}
	return told
}
