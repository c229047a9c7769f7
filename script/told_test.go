package script_test

import (
	"crypto/sha256"
	"fmt"
	"hash/crc32"
	"math"
	"strings"
	"testing"

	"assay/api"
	"assay/maker"
	"assay/manifest"
	"assay/script"
	"assay/slot"
	"assay/table"
)

// summed is a sector with the sum of its first 60 bytes behind them.
func summed(s api.Sector) api.Sector {
	sum := crc32.ChecksumIEEE(s[:60])
	for i := range 4 {
		s[60+i] = byte(sum >> (8 * i))
	}
	return s
}

func superOf(n int) api.Sector {
	return summed(api.Sector{0x41, 0x53, 0x53, 0x41, 0x59, 1, 8: byte(n), 9: byte(n >> 8)})
}

// laid is the steps to a device of these sectors, with all flushed.
func laid(l []api.Sector) []script.Step {
	m := steps(disk(len(l)))
	for at, s := range l {
		if s != (api.Sector{}) {
			m = append(m, put(at, s))
		}
	}
	return append(m, flush())
}

// ends: behind the steps to a device of these sectors, the last lines are these; all others are "ok".
func ends(t *testing.T, l []api.Sector, m []script.Step, want ...string) {
	t.Helper()
	lines := strings.Split(times(len(laid(l))-1, "ok ")+"ok", " ")
	plays(t, both(laid(l), m), append(lines, want...)...)
}

// tell: an audit, a run and an audit behind it of a device of these sectors have this line, however many workers, and the next ones are clean.
func tell(t *testing.T, l []api.Sector, want string) {
	t.Helper()
	for _, n := range []int{1, 0, 2, 8, 9, 100, 2147483647, -1, -2147483648, math.MinInt, math.MaxInt} {
		ends(t, l, steps(audit(n), audit(1), run(n), audit(n), run(1)), want, want, want, "ok clean", "ok clean")
	}
}

// made is the sectors of a store of n sectors in which these blobs are.
func made(t *testing.T, n int, blobs ...string) []api.Sector {
	t.Helper()
	m, e := maker.New(n)
	if e != api.OK {
		t.Fatal(n, e)
	}
	for _, b := range blobs {
		if _, e := m.Put([]byte(b)); e != api.OK {
			t.Fatal(b, e)
		}
	}
	return m.Sectors()
}

// page is a document's bytes, which names these digests.
func page(t *testing.T, named ...api.Digest) string {
	t.Helper()
	var l []api.Desc
	for _, d := range named {
		l = append(l, api.Desc{Key: d, Size: 3})
	}
	b, e := manifest.Write(api.Index, l)
	if e != api.OK {
		t.Fatal(named, e)
	}
	return string(b)
}

func keyOf(b string) api.Digest { return sha256.Sum256([]byte(b)) }

// pin is a tag's sector.
func pin(t *testing.T, name string, key api.Digest) api.Sector {
	t.Helper()
	s, e := table.PutTag(api.Tag{Name: name, Key: key})
	if e != api.OK {
		t.Fatal(name, e)
	}
	return s
}

// wrong is the sector of an entry without bytes, whose key is another one than theirs.
func wrong(t *testing.T, n, at int) api.Sector {
	t.Helper()
	s, e := slot.Put(api.Entry{State: api.Live, Key: keyOf(fmt.Sprint("wrong", at))}, n)
	if e != api.OK {
		t.Fatal(n, e)
	}
	return s
}

// P30.4: the line of one in which nothing is wrong.
func TestClean(t *testing.T) {
	for _, n := range []int{64, 100, 481, 1024} {
		tell(t, made(t, n, "abc", "", page(t, keyOf("abc"))), "ok clean")
	}
}

// P30.4: findings by rising kinds and places; numbers of one digit and of more.
func TestFindings(t *testing.T) {
	tell(t, make([]api.Sector, 64), zeroDisk)
	tell(t, make([]api.Sector, 1024), "ok repaired 2:0 2:1 3:0 3:1 3:2 18:0 18:1 18:2 18:3 18:4 18:5 18:6 18:7 18:8")
	l := made(t, 1024, "abc")
	l[13][7] |= 0x81 // the last sector's bit, and that of the one seven ahead of it
	l[13] = summed(l[13])
	l[2], l[1], l[14+127], l[142+63], l[206+10] = torn(), torn(), torn(), torn(), torn()
	l[270+6][4*10] = 1
	l[270+6] = summed(l[270+6])
	tell(t, l, "ok repaired 1:0 2:1 4:1016 4:1023 5:127 10:63 13:10 19:100")
}

// P30.4: digests that are to be got: their first four bytes, the zeros too, in order.
func TestGet(t *testing.T) {
	zeros, nine, letters, far := api.Digest{4: 0xff}, api.Digest{0, 0x0a, 0xb0, 0x09, 0xff}, api.Digest{0xab, 0xcd, 0xef, 0x01}, api.Digest{0xff, 0xff, 0xff, 0xff}
	abc, none := keyOf("abc"), keyOf("") // ba7816bf.., e3b0c442..
	doc := page(t, none, far, abc, zeros, abc, letters, nine)
	l := made(t, 64, doc)
	l[22] = pin(t, "v1", keyOf(doc))
	tell(t, l, "ok repaired 12:2 get 00000000 get 000ab009 get abcdef01 get ba7816bf get e3b0c442 get ffffffff")
	one := page(t, abc)
	l = made(t, 64, one)
	l[20], l[23] = pin(t, "a", keyOf(one)), pin(t, "b", keyOf(one))
	tell(t, l, "ok repaired 12:0 12:3 get ba7816bf")
}

// P30.4: slots that are dropped, rising.
func TestDrop(t *testing.T) {
	l := made(t, 64)
	for _, at := range []int{1, 2, 5} {
		l[12+at] = wrong(t, 64, at)
	}
	tell(t, l, "ok repaired 8:1 8:2 8:5 9:5 drop 5")
	l[12], l[12+7] = wrong(t, 64, 0), wrong(t, 64, 7)
	tell(t, l, "ok repaired 8:0 8:1 8:2 8:5 8:7 9:2 9:5 9:7 drop 2 drop 5 drop 7")
	l = made(t, 1024)
	found := ""
	for at := 93; at < 128; at++ {
		l[14+at] = wrong(t, 1024, at)
		found += fmt.Sprintf("8:%d ", at)
	}
	tell(t, l, "ok repaired "+found+"9:125 9:126 9:127 drop 125 drop 126 drop 127")
}

// P30.4: all parts of a report in one line, with one blank between.
func TestAllParts(t *testing.T) {
	doc := page(t, keyOf("def"), keyOf("abc"))
	l := made(t, 64, "x", doc)
	l[21] = pin(t, "v1", keyOf(doc))
	for at := 2; at < 8; at++ {
		l[12+at] = wrong(t, 64, at)
	}
	l[2] = torn()
	tell(t, l, "ok repaired 1:0 8:2 8:3 8:4 8:5 8:6 8:7 9:4 9:5 9:6 9:7 12:1 get ba7816bf get cb8379ac drop 4 drop 5 drop 6 drop 7")
	for _, line := range script.Play(both(laid(l), steps(audit(1), run(1), audit(1)))) {
		if strings.Contains(line, "  ") || strings.TrimSpace(line) != line {
			t.Errorf("P30.4: %q", line)
		}
	}
}

// P30.4: an Audit writes nothing: nothing lasts by it, nothing is flushed, no stop is come to, and the next one tells the same.
func TestAuditWritesNothing(t *testing.T) {
	z := zeroDisk
	plays(t, steps(disk(64), audit(1), audit(2), audit(1), run(1)), "ok", z, z, z, z)
	plays(t, steps(disk(64), stop(0), audit(1), audit(1), restart(), audit(1), run(1)), "ok", "ok", z, z, "ok", z, z)
	plays(t, steps(disk(64), stop(1), audit(1), audit(1), flush(), audit(1), flush(), audit(1), restart(), audit(1)), "ok", "ok", z, z, "ok", z, "no 21", z, "ok", z)
	behind(t, steps(put(20, torn()), audit(1), restart(), audit(1)), "ok", "ok repaired 10:0", "ok", "ok clean")
	behind(t, steps(put(20, torn()), audit(1), put(21, torn()), audit(1), restart(false, true), audit(1)), "ok", "ok repaired 10:0", "ok", "ok repaired 10:0 10:1", "ok", "ok repaired 10:1")
	// 14 acts are a run's own, with audits ahead or not.
	plays(t, steps(disk(64), stop(14), audit(1), audit(1), run(1), audit(1), flush()), "ok", "ok", z, z, z, "ok clean", "no 21")
}

// P30.4: a Run repairs what is read, flushed or not, and comes to the device's stop.
func TestRun(t *testing.T) {
	for k := range 14 {
		left := zeroDisk
		if k >= 7 {
			left = "ok repaired 1:0" // the mark has been flushed: what is left is the replay
		}
		plays(t, steps(disk(64), stop(k), run(1), flush(), audit(1), restart(), audit(1), run(1), run(1)), "ok", "ok", "no 21", "no 21", played(steps(disk(64), stop(k), run(1), audit(1)))[3], "ok", left, left, "ok clean")
	}
	plays(t, steps(disk(64), stop(14), run(1), run(1), audit(1), flush(), run(1)), "ok", "ok", zeroDisk, "ok clean", "ok clean", "no 21", "no 21")
	plays(t, steps(disk(64), stop(20), run(1), flush(), flush(), flush(), flush(), flush(), flush(), flush()), "ok", "ok", zeroDisk, "ok", "ok", "ok", "ok", "ok", "ok", "no 21")
	behind(t, steps(put(20, torn()), run(1), restart(), audit(1)), "ok", "ok repaired 10:0", "ok", "ok clean")
}
