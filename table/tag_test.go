package table_test

import (
	"bytes"
	"math/rand"
	"strings"
	"testing"

	"assay/api"
	"assay/table"
)

// letters is all that may stand in a name; the first two of them not at its beginning.
const letters = ".-ABCDEFGHIJKLMNOPQRSTUVWXYZabcdefghijklmnopqrstuvwxyz0123456789_"

// isName says it as chapter 13 does, byte by byte.
func isName(s string) bool {
	if len(s) < 1 || len(s) > 24 || s[0] == '.' || s[0] == '-' {
		return false
	}
	for i := range len(s) {
		if strings.IndexByte(letters, s[i]) < 0 {
			return false
		}
	}
	return true
}

// told is a tag's sector as the chapter tells it, of a text of up to 24 bytes that may be a name or not.
func told(text string, key api.Digest) api.Sector {
	s := api.Sector{0x54, byte(len(text))}
	copy(s[2:26], text)
	copy(s[26:58], key[:])
	return sum(s)
}

// readTag says what GetTag should, byte by byte.
func readTag(s api.Sector) (api.Tag, int) {
	if zeros(s[:]) {
		return api.Tag{}, table.Free
	}
	n := int(s[1])
	if s != sum(s) || s[0] != 0x54 || n > 24 || !isName(string(s[2:2+n])) || !zeros(s[2+n:26]) || !zeros(s[58:60]) {
		return api.Tag{}, table.Torn
	}
	return api.Tag{Name: string(s[2 : 2+n]), Key: api.Digest(s[26:58])}, table.Right
}

// checkGetTag holds GetTag against the chapter's words, and PutTag of a right one against the sector.
func checkGetTag(t *testing.T, s api.Sector) {
	t.Helper()
	want, kind := readTag(s)
	x, k := table.GetTag(s)
	if x != want || k != kind {
		t.Fatalf("GetTag(% x): %v, %d, want %v, %d", s, x, k, want, kind)
	}
	if k != table.Right {
		return
	}
	if r, e := table.PutTag(x); r != s || e != api.OK {
		t.Fatalf("% x back: % x, %d", s, r, e)
	}
}

// checkPutTag holds PutTag against the chapter's words, and GetTag of what it answers against the tag.
func checkPutTag(t *testing.T, x api.Tag) {
	t.Helper()
	s, e := table.PutTag(x)
	if !isName(x.Name) {
		if s != (api.Sector{}) || e != api.ErrName {
			t.Fatalf("PutTag(%q): % x, %d, want zeros, ErrName", x.Name, s, e)
		}
		return
	}
	if want := told(x.Name, x.Key); s != want || e != api.OK {
		t.Fatalf("PutTag(%v): % x, %d, want % x", x, s, e, want)
	}
	if g, kind := table.GetTag(s); g != x || kind != table.Right {
		t.Fatalf("%v there and back: %v, %d", x, g, kind)
	}
}

// someName is a name of n bytes by chance.
func someName(r *rand.Rand, n int) string {
	s := make([]byte, n)
	for i := range s {
		s[i] = letters[r.Intn(len(letters))]
	}
	s[0] = letters[2+r.Intn(len(letters)-2)]
	return string(s)
}

// tags is tags with names of every length, and with keys of many kinds.
func tags() []api.Tag {
	r := rand.New(rand.NewSource(2))
	keys := []api.Digest{{}, anyKey(), keyOf(0xFF), {31: 1}, {0: 0x80}}
	var l []api.Tag
	for n := 1; n <= 24; n++ {
		l = append(l, api.Tag{Name: someName(r, n), Key: keys[n%len(keys)]})
	}
	return append(l, api.Tag{Name: "_"}, api.Tag{Name: "0.9-rc_1", Key: anyKey()})
}

// P17.1, P17.2, P17.4: names of every length from none to far beyond 24; of some the lowest 8 or 16 bits are those of a name's.
func TestNamesOfEveryLength(t *testing.T) {
	r := rand.New(rand.NewSource(3))
	for n := range 300 {
		for _, c := range []string{"a", "Z", "5", "_", ".", "-", "\x00", " ", "\xff", "\u00e9"} {
			checkPutTag(t, api.Tag{Name: strings.Repeat(c, n), Key: anyKey()})
		}
		if n > 0 {
			checkPutTag(t, api.Tag{Name: someName(r, n)})
		}
	}
	for _, n := range []int{256 + 1, 256 + 24, 1 << 16, 1<<16 + 1, 1<<16 + 24, 1 << 20} {
		checkPutTag(t, api.Tag{Name: strings.Repeat("a", n), Key: anyKey()})
	}
}

// P17.1, P17.2: every byte at every place of a name of every length: as a tag, and in a sector with its sum.
func TestEverySignInAName(t *testing.T) {
	for v := range 256 {
		for n := 1; n <= 24; n++ {
			for at := range n {
				b := bytes.Repeat([]byte{'m'}, n)
				b[at] = byte(v)
				checkPutTag(t, api.Tag{Name: string(b), Key: anyKey()})
				checkGetTag(t, told(string(b), anyKey()))
			}
		}
	}
}

// P17.1, P17.2: what is more than one byte, or no letter of any text.
func TestStrangeNames(t *testing.T) {
	for _, x := range []string{"\u00e9", "\u017f", "\u0391", "\u0430", "\u0660", "\u212a", "\uff0e", "\uff21", "\ufeff", "\ufffd", "\U00010041", "\U0001f600", "\x80", "\xc0", "\xff", "\xc1\x81", "\xed\xa0\x80", "\x00", "\n", " ", "/", ":", "@", "[", "`", "{", "~", "\x7f"} {
		for n := 0; n <= 20; n++ {
			for at := 0; at <= n; at++ {
				s := strings.Repeat("q", at) + x + strings.Repeat("q", n-at)
				if isName(s) {
					t.Fatalf("%q", s)
				}
				checkPutTag(t, api.Tag{Name: s, Key: anyKey()})
				checkGetTag(t, told(s, anyKey()))
			}
		}
	}
}

// P17.1: every length's byte with a name of every length, and the sum made right: one of them alone is the name's.
func TestEveryLengthsByte(t *testing.T) {
	for n := 0; n <= 24; n++ {
		for v := range 256 {
			s := told(strings.Repeat("k", n), anyKey())
			s[1] = byte(v)
			checkGetTag(t, s)
			s = sum(s)
			checkGetTag(t, s)
			if _, kind := table.GetTag(s); (kind == table.Right) != (n > 0 && v == n) {
				t.Fatalf("a name of %d with the length %d: %d", n, v, kind)
			}
		}
	}
	// A key that would go on as a name does not lend it its bytes.
	for v := 25; v < 256; v++ {
		s := told(strings.Repeat("k", 24), keyOf('k'))
		s[1] = byte(v)
		if x, kind := table.GetTag(sum(s)); x != (api.Tag{}) || kind != table.Torn {
			t.Fatalf("the length %d: %v, %d", v, x, kind)
		}
	}
}

// P17.1: what stands behind the name is zeros, all of it.
func TestWhatStandsBehindTheName(t *testing.T) {
	for n := 1; n <= 23; n++ {
		for at := n; at < 24; at++ {
			for v := 1; v < 256; v++ {
				s := told(strings.Repeat("k", n), anyKey())
				s[2+at] = byte(v)
				if x, kind := table.GetTag(sum(s)); x != (api.Tag{}) || kind != table.Torn {
					t.Fatalf("a name of %d, the byte %d behind its first one %02x: %v, %d", n, at, v, x, kind)
				}
			}
		}
	}
}

// P17.1, P17.5: each byte of each tag's sector another, in each way, with the sum as it was and with the sum made right.
func TestEachByteOfATagIsAnother(t *testing.T) {
	for _, x := range tags() {
		n := len(x.Name)
		changed(told(x.Name, x.Key), func(s api.Sector, at int) {
			if g, kind := table.GetTag(s); g != (api.Tag{}) || kind != table.Torn {
				t.Fatalf("%v with byte %d turned: %v, %d", x, at, g, kind)
			}
			s = sum(s)
			checkGetTag(t, s)
			g, kind := table.GetTag(s)
			switch {
			case at >= 60: // the sum was made right, so it is as it was
				if g != x || kind != table.Right {
					t.Fatalf("%v: %v, %d", x, g, kind)
				}
			case at >= 26 && at < 58: // any key may be
				if g.Name != x.Name || g.Key == x.Key || kind != table.Right {
					t.Fatalf("%v with byte %d of the key another: %v, %d", x, at-26, g, kind)
				}
			case at < 2 || at >= 2+n:
				if kind != table.Torn {
					t.Fatalf("%v with byte %d another and its sum: %v, %d", x, at, g, kind)
				}
			}
		})
	}
}

// P17.1: two bytes are others, and the sum is right: the length and a byte of the name together may make another tag.
func TestTwoBytesOfATagAreOthers(t *testing.T) {
	r := rand.New(rand.NewSource(4))
	rights, l := 0, tags()
	for range 100000 {
		x := l[r.Intn(24)]
		s := told(x.Name, x.Key)
		s[1] = byte(r.Intn(28))
		s[2+r.Intn(24)] = letters[r.Intn(len(letters))]
		if r.Intn(3) == 0 {
			s[1]++
			s[2+len(x.Name)] = 'x'
		}
		s = sum(s)
		checkGetTag(t, s)
		if _, kind := table.GetTag(s); kind == table.Right {
			rights++
		}
	}
	if rights < 1000 {
		t.Errorf("only %d were right: the others show little", rights)
	}
}

// P17.2, P17.4: tags by chance, there and back.
func TestTagsByChance(t *testing.T) {
	r := rand.New(rand.NewSource(5))
	for range 100000 {
		x := api.Tag{Name: someName(r, 1+r.Intn(26))}
		r.Read(x.Key[:])
		checkPutTag(t, x)
	}
}

// P17.5
func TestNoBurstLeavesATag(t *testing.T) {
	r := rand.New(rand.NewSource(6))
	for _, x := range tags() {
		s, e := table.PutTag(x)
		if e != api.OK {
			t.Fatalf("%v: %d", x, e)
		}
		bursts(s, r, func(b api.Sector) {
			if g, kind := table.GetTag(b); g != (api.Tag{}) || kind != table.Torn {
				t.Fatalf("%v: % x: %v, %d", x, b, g, kind)
			}
		})
	}
}
