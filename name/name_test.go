package name_test

import (
	"bytes"
	"math"
	"math/rand"
	"strings"
	"testing"

	"assay/api"
	"assay/name"
)

// letters is all that may stand in a name; the first two of them not at its beginning.
const letters = ".-ABCDEFGHIJKLMNOPQRSTUVWXYZabcdefghijklmnopqrstuvwxyz0123456789_"

// isName says it as the chapter does, byte by byte.
func isName(s string) bool {
	if len(s) < 1 || len(s) > 24 || s[0] == '.' || s[0] == '-' {
		return false
	}
	for i := 0; i < len(s); i++ {
		if strings.IndexByte(letters, s[i]) < 0 {
			return false
		}
	}
	return true
}

// laid is 24 bytes that begin with the text (of a longer one what there is room for), and zeros.
func laid(s string) []byte {
	var b [24]byte
	copy(b[:], s)
	return b[:]
}

// far is numbers of which no name has so many bytes; of some the lowest 8, 16 or 32 bits are those of one that a name has.
func far(n int) []int {
	return []int{
		n + 1<<8, n - 1<<8, n + 1<<16, n - 1<<16, n + 1<<32, n - 1<<32, n + 1<<48, n ^ math.MinInt, ^n, -n,
		25, 26, 31, 32, 63, 64, 127, 128, 255, 256, 1<<15 - 1, 1 << 16, math.MaxInt32, 1 << 32, math.MaxInt - 24, math.MaxInt - 1, math.MaxInt,
		-1, -2, -24, -25, -64, math.MinInt32, math.MinInt, math.MinInt + 1, math.MinInt + 24,
	}
}

// some is a name of n bytes by chance.
func some(r *rand.Rand, n int) string {
	s := make([]byte, n)
	for i := range s {
		s[i] = letters[r.Intn(len(letters))]
	}
	s[0] = letters[2+r.Intn(len(letters)-2)]
	return string(s)
}

// check holds Check and Put of a text against the chapter's words, and Get of what Put answers, with every n.
func check(t *testing.T, s string) {
	t.Helper()
	bad := api.ErrName
	if isName(s) {
		bad = api.OK
	}
	if e := name.Check(s); e != bad {
		t.Fatalf("Check(%q): %d, want %d", s, e, bad)
	}
	b, e := name.Put(s)
	if e != bad {
		t.Fatalf("Put(%q): error %d, want %d", s, e, bad)
	}
	if bad != api.OK {
		if len(b) != 0 {
			t.Fatalf("Put(%q): % x, want no bytes", s, b)
		}
		return
	}
	if !bytes.Equal(b, laid(s)) {
		t.Fatalf("Put(%q): % x", s, b)
	}
	for n := -2; n <= 27; n++ {
		checkGet(t, b, n)
	}
}

// checkGet holds Get against the chapter's words, and Put of a name that it tells against the bytes.
func checkGet(t *testing.T, b []byte, n int) {
	t.Helper()
	want, ok := "", len(b) == 24 && n >= 1 && n <= 24
	if ok {
		want = string(b[:n])
		ok = isName(want)
		for _, v := range b[n:] {
			ok = ok && v == 0
		}
	}
	if !ok {
		want = ""
	}
	s, told := name.Get(b, n)
	if s != want || told != ok {
		t.Fatalf("Get(% x, %d): %q, %v, want %q, %v", b, n, s, told, want, ok)
	}
	if told {
		if r, e := name.Put(s); !bytes.Equal(r, b) || e != api.OK || len(s) != n {
			t.Fatalf("% x with %d back: % x, %d", b, n, r, e)
		}
	}
}

// P13.1, P13.2, P13.4
func TestTheExamples(t *testing.T) {
	for _, s := range []string{"v1", "_", "0.9-rc_1", strings.Repeat("x", 24)} {
		if e := name.Check(s); e != api.OK {
			t.Errorf("Check(%q): %d", s, e)
		}
	}
	for _, s := range []string{"", ".v", "-v", "a b", "a/b", strings.Repeat("x", 25), "\u00e9", "\xff"} {
		if e := name.Check(s); e != api.ErrName {
			t.Errorf("Check(%q): %d", s, e)
		}
	}
	b, e := name.Put("ab")
	want := []byte{0x61, 0x62, 0, 0, 0, 0, 0, 0, 0, 0, 0, 0, 0, 0, 0, 0, 0, 0, 0, 0, 0, 0, 0, 0}
	if !bytes.Equal(b, want) || e != api.OK {
		t.Errorf("Put: % x, %d", b, e)
	}
	if s, ok := name.Get(want, 2); s != "ab" || !ok {
		t.Errorf("Get with 2: %q, %v", s, ok)
	}
	for _, n := range []int{1, 3, 0, 25} {
		if s, ok := name.Get(want, n); s != "" || ok {
			t.Errorf("Get with %d: %q, %v", n, s, ok)
		}
	}
	if s, ok := name.Get(want[:23], 2); s != "" || ok {
		t.Errorf("Get of 23 bytes: %q, %v", s, ok)
	}
	for _, c := range []struct {
		a, b string
		want int
	}{{"a", "ab", -1}, {"b", "ab", 1}, {"a", "a", 0}, {"B", "a", -1}} {
		if got := name.Compare(c.a, c.b); got != c.want {
			t.Errorf("Compare(%q, %q): %d", c.a, c.b, got)
		}
	}
}

// P13.1: how many there are, counted from the chapter's words, so that the text above is held too.
func TestHowManyBytesMayBeNames(t *testing.T) {
	first, second := 0, 0
	for v := range 256 {
		if name.Check(string([]byte{byte(v)})) == api.OK {
			first++
		}
		if name.Check(string([]byte{'a', byte(v)})) == api.OK {
			second++
		}
	}
	if first != 26+26+10+1 || second != first+2 {
		t.Error(first, second)
	}
}

// P13.1, P13.2: every byte alone, behind each other one, and at every place of a name of every length.
func TestEveryByteAtEveryPlace(t *testing.T) {
	for v := range 256 {
		check(t, string([]byte{byte(v)}))
		for w := range 256 {
			check(t, string([]byte{byte(v), byte(w)}))
		}
		for n := 1; n <= 25; n++ {
			for at := range n {
				s := bytes.Repeat([]byte{'m'}, n)
				s[at] = byte(v)
				check(t, string(s))
			}
		}
	}
}

// P13.1, P13.2: texts of every length about the bounds, and far beyond them.
func TestEveryLength(t *testing.T) {
	r := rand.New(rand.NewSource(1))
	for n := range 300 {
		for _, s := range []string{"a", "Z", "5", "_", ".", "-", "\x00", " ", "\xff", "\u00e9"} {
			check(t, strings.Repeat(s, n))
		}
		if n > 0 {
			check(t, some(r, n))
		}
	}
	// Of these lengths the lowest 8 or 16 bits are those of a name's.
	for _, n := range []int{256 + 1, 256 + 24, 512 + 2, 1 << 16, 1<<16 + 1, 1<<16 + 24, 1 << 20} {
		check(t, strings.Repeat("a", n))
	}
}

// strays is letters of more than one byte, some of which look like, or end like, one that may be; bytes that are no letters; and pieces of letters.
func strays() []string {
	return []string{
		"\u0080", "\u00aa", "\u00ba", "\u00c0", "\u00e9", "\u00ff", "\u0100", "\u0141", "\u0161", "\u017f", "\u0130", "\u0131",
		"\u0391", "\u0430", "\u0660", "\u06f5", "\u0966", "\u203f", "\u2010", "\u2024", "\u212a", "\uff0d", "\uff0e", "\uff11", "\uff21", "\uff3f", "\uff41",
		"\ufeff", "\ufffd", "\u2028", "\U00010041", "\U0001d7ce", "\U0001f600", "\U0010ffff",
		"\x80", "\xbf", "\xc0", "\xc3", "\xe9", "\xf0", "\xf8", "\xfe", "\xff",
		"\xc1\x81", "\xe0\x81\x81", "\xf0\x80\x81\x81", "\xed\xa0\x80", "\xf4\x90\x80\x80", "\xc3a", "\xe2\x80a", "e\u0301",
	}
}

// P13.1: what is more than one byte, and what is no letter of any text, at every place of a name.
func TestStraysAtEveryPlace(t *testing.T) {
	for _, x := range strays() {
		check(t, x)
		for n := 0; n <= 24; n++ {
			for at := 0; at <= n; at++ {
				s := strings.Repeat("q", at) + x + strings.Repeat("q", n-at)
				if isName(s) {
					t.Fatalf("%q", s)
				}
				check(t, s)
			}
		}
	}
	// Every letter of several bytes alone, and behind one that may be.
	for v := rune(0x80); v <= 0x10FFFF; v++ {
		if s := string(v); name.Check(s) != api.ErrName || name.Check("a"+s) != api.ErrName {
			t.Fatalf("%x", v)
		}
	}
}

// P13.1: a name with a point or a minus sign at every place and a text that is a name behind its first byte.
func TestOnlyTheFirstByteIsChoosier(t *testing.T) {
	for n := 1; n <= 24; n++ {
		for at := range n {
			for _, c := range []byte{'.', '-'} {
				s := bytes.Repeat([]byte{'0'}, n)
				s[at] = c
				want := api.OK
				if at == 0 {
					want = api.ErrName
				}
				if e := name.Check(string(s)); e != want {
					t.Fatalf("%q: %d", s, e)
				}
				check(t, string(s))
			}
		}
	}
	check(t, "a"+strings.Repeat(".", 23))
	check(t, "a"+strings.Repeat("-", 23))
	check(t, "_.-.-")
	check(t, "..")
	check(t, "-.a")
}

// P13.2, P13.3: names there and back, each with every n and with numbers far off.
func TestThereAndBack(t *testing.T) {
	r := rand.New(rand.NewSource(2))
	for n := 1; n <= 24; n++ {
		for range 200 {
			s := some(r, n)
			check(t, s)
			b, _ := name.Put(s)
			if back, ok := name.Get(b, n); back != s || !ok {
				t.Fatalf("%q there and back: %q, %v", s, back, ok)
			}
			for _, m := range far(n) {
				if back, ok := name.Get(b, m); back != "" || ok {
					t.Fatalf("Get(% x, %d): %q, %v", b, m, back, ok)
				}
			}
		}
	}
}

// P13.2, P13.3: any one byte turned: it is another name's, or no name's.
func TestOneByteIsAnother(t *testing.T) {
	r := rand.New(rand.NewSource(3))
	for n := 1; n <= 24; n++ {
		s := some(r, n)
		for at := range 24 {
			for v := range 256 {
				b := laid(s)
				b[at] = byte(v)
				for m := 0; m <= 25; m++ {
					checkGet(t, b, m)
				}
				got, ok := name.Get(b, n)
				if at >= n && ok != (v == 0) || ok && at < n && got != s[:at]+string(rune(v))+s[at+1:] {
					t.Fatalf("Get(% x, %d): %q, %v", b, n, got, ok)
				}
			}
		}
	}
}

// P13.2: what stands behind the name is zeros, all of it: not letters, not some of it.
func TestWhatStandsBehindTheName(t *testing.T) {
	for n := 1; n <= 23; n++ {
		for _, v := range []byte{1, ' ', '0', 'a', '.', '_', 0x80, 0xFF} {
			for from := n; from < 24; from++ {
				for to := from + 1; to <= 24; to++ {
					b := laid(strings.Repeat("k", n))
					copy(b[from:to], bytes.Repeat([]byte{v}, 24))
					checkGet(t, b, n)
					if s, ok := name.Get(b, n); s != "" || ok {
						t.Fatalf("Get(% x, %d): %q, %v", b, n, s, ok)
					}
				}
			}
		}
	}
}

// P13.2, P1: lists of other lengths than 24, with every n that they might have and with others.
func TestOtherListsAreRefused(t *testing.T) {
	for _, fill := range []byte{0, 'a', 0xFF} {
		for long := 0; long <= 100; long++ {
			b := bytes.Repeat([]byte{fill}, long)
			if long > 0 {
				b[0] = 'a'
			}
			for n := -30; n <= 130; n++ {
				checkGet(t, b, n)
			}
			for _, n := range far(min(long, 24)) {
				checkGet(t, b, n)
			}
		}
	}
	for _, n := range append(far(1), 0, 1, 2, 23, 24) {
		checkGet(t, nil, n)
		checkGet(t, []byte{}, n)
		checkGet(t, make([]byte, 1<<16+24), n)
		// The room behind the list is not the list's.
		checkGet(t, laid("ab")[:23], n)
		checkGet(t, laid("ab")[:2], n)
		checkGet(t, laid("ab")[:0], n)
		checkGet(t, append(laid("ab"), 0), n)
	}
}

// P13.2, P13.3, P1: bytes by chance, some of them nearly names.
func TestBytesByChance(t *testing.T) {
	r := rand.New(rand.NewSource(4))
	names := 0
	for range 200000 {
		b := make([]byte, 24)
		n := 1 + r.Intn(24)
		for i := range b[:n] {
			b[i] = letters[r.Intn(len(letters))]
		}
		for range r.Intn(3) {
			b[r.Intn(24)] = byte(r.Intn(256))
		}
		checkGet(t, b, n)
		if _, ok := name.Get(b, n); ok {
			names++
		}
		for i := range b {
			b[i] = byte(r.Intn(256))
		}
		checkGet(t, b, r.Intn(30)-2)
		check(t, string(b[:r.Intn(25)]))
	}
	if names < 20000 {
		t.Errorf("only %d names", names)
	}
}

// before says which comes first, byte by byte.
func before(a, b string) int {
	for i := 0; i < len(a) && i < len(b); i++ {
		if a[i] != b[i] {
			if a[i] < b[i] {
				return -1
			}
			return 1
		}
	}
	switch {
	case len(a) < len(b):
		return -1
	case len(a) > len(b):
		return 1
	}
	return 0
}

// checkOrder holds Compare against the chapter's words, both ways.
func checkOrder(t *testing.T, a, b string) {
	t.Helper()
	want := before(a, b)
	if got := name.Compare(a, b); got != want {
		t.Fatalf("Compare(%q, %q): %d, want %d", a, b, got, want)
	}
	if got := name.Compare(b, a); got != -want {
		t.Fatalf("Compare(%q, %q): %d, want %d", b, a, got, -want)
	}
	// The same bytes at another place in memory are the same text.
	if name.Compare(a, strings.Clone(a)) != 0 || name.Compare(b, strings.Clone(b)) != 0 {
		t.Fatalf("%q or %q is not as itself", a, b)
	}
}

// P13.4: every byte against every other one, alone, behind a beginning that both share, and ahead of a tail that says otherwise.
func TestCompareOfEveryTwoBytes(t *testing.T) {
	for v := range 256 {
		for w := range 256 {
			a, b := string([]byte{byte(v)}), string([]byte{byte(w)})
			checkOrder(t, a, b)
			checkOrder(t, "k\xff\x00"+a, "k\xff\x00"+b)
			checkOrder(t, a+"\xff", b+"\x00")
			checkOrder(t, a+"long", b)
			checkOrder(t, a, b+"\x00")
		}
	}
}

// P13.4: any texts, a beginning ahead of what goes on, by bytes and not by letters.
func TestCompareOfAnyTexts(t *testing.T) {
	l := append(strays(), "", "\x00", "\x00\x00", "a", "A", "ab", "aB", "a\x00", "a ", "B", "b", "Z", "_", "~", "10", "9", "v1", "v1.", "v10", "v2", ".", "-",
		strings.Repeat("a", 24), strings.Repeat("a", 25), strings.Repeat("a", 1000), strings.Repeat("a", 999)+"b", strings.Repeat("a", 999))
	for _, a := range l {
		for _, b := range l {
			checkOrder(t, a, b)
			checkOrder(t, a+b, b+a)
			checkOrder(t, a+b, a)
			if (name.Compare(a, b) == 0) != (a == b) {
				t.Fatalf("%q, %q", a, b)
			}
		}
	}
	for _, c := range []struct {
		a, b string
		want int
	}{
		{"", "", 0}, {"", "a", -1}, {"", "\x00", -1}, {"a", "a\x00", -1}, {"\x7f", "\x80", -1}, {"\xff", "a", 1}, {"\xff", "\u00e9", 1},
		{"\u00e9", "z", 1}, {"\u00e9", "e\u0301", 1}, {"\uffff", "\U00010000", -1}, {"10", "9", -1}, {"Z", "a", -1}, {"-", ".", -1}, {"\xfe", "\xff", -1},
	} {
		if got := name.Compare(c.a, c.b); got != c.want {
			t.Errorf("Compare(%q, %q): %d, want %d", c.a, c.b, got, c.want)
		}
		checkOrder(t, c.a, c.b)
	}
}

// P13.4: texts by chance that share beginnings, and that three of them are in one order.
func TestCompareByChance(t *testing.T) {
	r := rand.New(rand.NewSource(5))
	one := func() string {
		s := make([]byte, r.Intn(6))
		for i := range s {
			s[i] = []byte{0, 1, 'a', 'b', 0x7F, 0x80, 0xFF}[r.Intn(7)]
		}
		return string(s)
	}
	for range 200000 {
		a, b, c := one(), one(), one()
		checkOrder(t, a, b)
		if name.Compare(a, b) <= 0 && name.Compare(b, c) <= 0 && name.Compare(a, c) > 0 {
			t.Fatalf("%q, %q, %q", a, b, c)
		}
	}
}

// P2, P3, P5: what is handed in stays, with the room behind it; what is answered is new memory; the same is answered again.
func TestNothingIsSharedOrChanged(t *testing.T) {
	for n := 1; n <= 24; n++ {
		s := strings.Repeat("w", n)
		one, _ := name.Put(s)
		two, _ := name.Put(s)
		for i := range one {
			one[i] = 0xAA
		}
		one = append(one, 0xBB)
		if !bytes.Equal(two, laid(s)) || s != strings.Repeat("w", n) {
			t.Fatalf("%d: % x, %q", n, two, s)
		}
		if three, e := name.Put(s); !bytes.Equal(three, laid(s)) || e != api.OK {
			t.Fatalf("%d: % x, %d", n, three, e)
		}

		room := append(laid(s), "behind"...)
		kept := bytes.Clone(room)
		got, ok := name.Get(room[:24], n)
		if got != s || !ok || !bytes.Equal(room, kept) {
			t.Fatalf("%d: %q, %v, % x", n, got, ok, room)
		}
		for i := range room {
			room[i] = 'x'
		}
		if got != s {
			t.Fatalf("%d: the name has become %q", n, got)
		}
		if _, ok := name.Get(room[:24], n); ok != (n == 24) {
			t.Fatalf("%d: %v", n, ok)
		}
		if again, ok := name.Get(kept[:24], n); again != s || !ok {
			t.Fatalf("%d the second time: %q, %v", n, again, ok)
		}
	}
	// What was refused leaves nothing behind.
	for _, s := range []string{"", ".", "-a", "a b", strings.Repeat("a", 25), "\xff"} {
		name.Put(s)
		name.Check(s)
		name.Get([]byte(s), len(s))
		if b, e := name.Put("ab"); !bytes.Equal(b, laid("ab")) || e != api.OK {
			t.Fatalf("behind %q: % x, %d", s, b, e)
		}
	}
}
