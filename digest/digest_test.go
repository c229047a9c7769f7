package digest_test

import (
	"bytes"
	"cmp"
	"encoding/hex"
	"math/rand"
	"slices"
	"strings"
	"testing"

	"assay/api"
	"assay/digest"
)

// some is n digests that hang on the seed alone; a small span makes equal ones, and ones that differ late.
func some(seed int64, n, span int) []api.Digest {
	r := rand.New(rand.NewSource(seed))
	l := make([]api.Digest, n)
	for i := range l {
		l[i][r.Intn(32)] = byte(r.Intn(span))
		l[i][r.Intn(32)] = byte(255 - r.Intn(span))
	}
	return l
}

// full is a digest of bytes of all sorts.
func full(seed int64) api.Digest {
	var d api.Digest
	rand.New(rand.NewSource(seed)).Read(d[:])
	return d
}

// written is a digest's text, as Go's own library has the digits.
func written(d api.Digest) string { return "sha256:" + hex.EncodeToString(d[:]) }

// known is the order as Go's own library has it.
func known(a, b api.Digest) int { return bytes.Compare(a[:], b[:]) }

// refused fails the test, unless s is the text of no digest.
func refused(t *testing.T, s string) {
	t.Helper()
	if d, e := digest.Parse(s); e != api.ErrDigest || d != (api.Digest{}) {
		t.Errorf("Parse(%q): %x, %d, want zeros, ErrDigest", s, d, e)
	}
}

// P4.1
func TestTextsOfTheExamples(t *testing.T) {
	for _, c := range []struct {
		d    api.Digest
		want string
	}{
		{api.Digest{}, "sha256:" + strings.Repeat("0", 64)},
		{api.Digest{0x0a, 0xff}, "sha256:0aff" + strings.Repeat("0", 60)},
		{api.Digest{31: 0xf9}, "sha256:" + strings.Repeat("0", 62) + "f9"},
	} {
		if s := digest.Text(c.d); s != c.want {
			t.Errorf("Text(%x): %q, want %q", c.d, s, c.want)
		}
		if d, e := digest.Parse(c.want); d != c.d || e != api.OK {
			t.Errorf("Parse(%q): %x, %d, want %x, OK", c.want, d, e, c.d)
		}
	}
}

// P4.1, P4.3: each byte at each place.
func TestTextThereAndBack(t *testing.T) {
	for at := range 32 {
		for v := range 256 {
			d := full(int64(at))
			d[at] = byte(v)
			s := digest.Text(d)
			if s != written(d) {
				t.Fatalf("Text(%x): %q", d, s)
			}
			if back, e := digest.Parse(s); back != d || e != api.OK {
				t.Fatalf("Parse(%q): %x, %d", s, back, e)
			}
		}
	}
}

// P4.1: just the 16 digits are taken, at whatever place, whichever byte stands there else.
func TestParseTakesTheDigitsAlone(t *testing.T) {
	right := written(full(1))
	for at := range len(right) {
		for v := range 256 {
			s := right[:at] + string([]byte{byte(v)}) + right[at+1:]
			if s == right || at >= 7 && strings.IndexByte("0123456789abcdef", byte(v)) >= 0 {
				if d, e := digest.Parse(s); e != api.OK || written(d) != s {
					t.Fatalf("Parse(%q): %x, %d", s, d, e)
				}
				continue
			}
			refused(t, s)
		}
	}
}

// P4.1
func TestParseRefusesOtherLengths(t *testing.T) {
	right := written(full(2))
	for n := range len(right) {
		refused(t, right[:n])
		refused(t, right[len(right)-n:])
	}
	for _, more := range []string{"0", "f", "00", " ", "\n", "\x00", "é", right} {
		refused(t, right+more)
		refused(t, more+right)
		refused(t, right[:7]+more+right[7:])
	}
	refused(t, "sha256:sha256:"+right[7:64])
	refused(t, "sha256:"+strings.Repeat("0", 1<<20))
}

// P4.1
func TestParseRefusesOtherForms(t *testing.T) {
	digits := strings.Repeat("a1", 32)
	refused(t, digits)
	refused(t, ":"+digits)
	for _, ahead := range []string{"SHA256:", "Sha256:", "sha512:", "sha-256", "sha256 ", "sha256;", "       ", "0000000"} {
		refused(t, ahead+digits)
	}
	refused(t, "sha256:"+strings.ToUpper(digits))
	refused(t, "sha256:"+strings.Repeat("+1", 32))
	refused(t, "sha256:0x"+digits[2:])
	refused(t, "sha256:"+digits[:62]+"_1")
}

// P4.1: runes of several bytes, also ones whose lower bits are a digit's, and bytes that are no rune.
func TestParseRefusesOtherRunes(t *testing.T) {
	digits := strings.Repeat("7", 64)
	for _, r := range []string{"é", "\u0130", "\u0161", "\u0661", "\uff11", "\uff41", "\U00010030", "\U0001d7d8", "\ufffd", "\xff", "\xc3", "\x80", "\xe2\x82"} {
		for at := 0; at+len(r) <= len(digits); at++ {
			refused(t, "sha256:"+digits[:at]+r+digits[at+len(r):])
			refused(t, "sha256:"+digits[:at]+r+digits[at+1:])
		}
		refused(t, "sha256:"+strings.Repeat(r, 32))
		refused(t, "sha256:"+strings.Repeat(r, 64))
	}
}

// P4.2
func TestOrderOfTheExamples(t *testing.T) {
	d := full(3)
	for _, c := range []struct {
		a, b api.Digest
		want int
	}{
		{api.Digest{0}, api.Digest{1}, -1},
		{d, d, 0},
		{api.Digest{}, api.Digest{}, 0},
		{api.Digest{1, 0}, api.Digest{0, 0xff}, 1},
		{api.Digest{0, 0xff}, api.Digest{1, 0}, -1},
		{api.Digest{0x80}, api.Digest{0x7f, 0xff}, 1},
		{api.Digest{0xff}, api.Digest{0}, 1},
		{api.Digest{31: 1}, api.Digest{31: 2}, -1},
	} {
		if n := digest.Compare(c.a, c.b); n != c.want {
			t.Errorf("Compare(%x, %x): %d, want %d", c.a, c.b, n, c.want)
		}
	}
}

// P4.2: the first byte that differs tells, wherever it stands, whatever the bytes behind it are.
func TestFirstByteThatDiffersTells(t *testing.T) {
	for at := range 32 {
		a := full(int64(at))
		b := a
		a[at], b[at] = 0x7f, 0x80
		for i := at + 1; i < 32; i++ {
			a[i], b[i] = 0xff, 0
		}
		if digest.Compare(a, b) != -1 || digest.Compare(b, a) != 1 {
			t.Errorf("Compare(%x, %x): %d, the other way %d", a, b, digest.Compare(a, b), digest.Compare(b, a))
		}
	}
}

// P4.2, P4.3: texts are in the order of the digests, and are the same just for the same ones.
func TestOrderIsThatOfTheTexts(t *testing.T) {
	l := append(some(4, 120, 3), full(5), full(6), full(5))
	for _, a := range l {
		for _, b := range l {
			n := digest.Compare(a, b)
			if n != known(a, b) {
				t.Fatalf("Compare(%x, %x): %d, want %d", a, b, n, known(a, b))
			}
			if texts := cmp.Compare(digest.Text(a), digest.Text(b)); texts != n {
				t.Fatalf("Compare(%x, %x): %d, but of the texts %d", a, b, n, texts)
			}
			if (n == 0) != (a == b) {
				t.Fatalf("Compare(%x, %x): %d", a, b, n)
			}
		}
	}
}

// P4.2
func TestSortedOfTheExamples(t *testing.T) {
	one, two := api.Digest{1}, api.Digest{2}
	if l := digest.Sorted(two, one, two); !slices.Equal(l, []api.Digest{one, two}) {
		t.Errorf("Sorted(02, 01, 02): %x", l)
	}
	if l := digest.Sorted(); len(l) != 0 {
		t.Errorf("Sorted(): %x", l)
	}
	if l := digest.Sorted([]api.Digest{}...); len(l) != 0 {
		t.Errorf("Sorted of a list without elements: %x", l)
	}
	if l := digest.Sorted(two); !slices.Equal(l, []api.Digest{two}) {
		t.Errorf("Sorted(02): %x", l)
	}
	if l := digest.Sorted(api.Digest{}, api.Digest{}); !slices.Equal(l, []api.Digest{{}}) {
		t.Errorf("Sorted of twice zeros: %x", l)
	}
}

// P4.2, P4.3
func TestSortedHangsOnTheSetAlone(t *testing.T) {
	for n := range 200 {
		l := some(int64(n), n, 2+n%5)
		got := digest.Sorted(l...)
		for i := 1; i < len(got); i++ {
			if known(got[i-1], got[i]) != -1 {
				t.Fatalf("of %d digests: %x ahead of %x", n, got[i-1], got[i])
			}
		}
		for _, d := range l {
			if !slices.Contains(got, d) {
				t.Fatalf("of %d digests: %x is missing", n, d)
			}
		}
		for _, d := range got {
			if !slices.Contains(l, d) {
				t.Fatalf("of %d digests: %x is one too many", n, d)
			}
		}
		mixed := append(append([]api.Digest{}, l...), l...)
		rand.New(rand.NewSource(int64(n))).Shuffle(len(mixed), func(i, j int) { mixed[i], mixed[j] = mixed[j], mixed[i] })
		if !slices.Equal(digest.Sorted(mixed...), got) || !slices.Equal(digest.Sorted(got...), got) {
			t.Fatalf("of %d digests: Sorted hangs on the order, or on how often one stands there", n)
		}
	}
}

// P4.2, P2: the list and the room behind it stay, and the answer is nobody else's.
func TestSortedLeavesWhatItIsHanded(t *testing.T) {
	for n := range 12 {
		room := slices.Repeat([]api.Digest{{9}, {3}, {9}, {1}}, 5)
		before := slices.Clone(room)
		got := digest.Sorted(room[:n]...)
		want := slices.Clone(got)
		if !slices.Equal(room, before) {
			t.Fatalf("Sorted of %d digests changed them, or the room behind them", n)
		}
		got = append(got, api.Digest{77})
		for i := range got {
			got[i] = api.Digest{88}
		}
		if !slices.Equal(room, before) {
			t.Fatalf("writing into Sorted of %d digests is seen in them", n)
		}
		if !slices.Equal(digest.Sorted(room[:n]...), want) {
			t.Fatalf("a second Sorted of %d digests is another", n)
		}
	}
	// In order already: nothing is to be done, and still the answer is new memory.
	right := []api.Digest{{1}, {2}, {3}}
	digest.Sorted(right...)[0] = api.Digest{7}
	if right[0] != (api.Digest{1}) {
		t.Error("Sorted of digests in order answers the list that was handed in")
	}
}
