package sha_test

import (
	"bytes"
	"crypto/sha256"
	"encoding/hex"
	"math/rand"
	"testing"

	"assay/api"
	"assay/sha"
)

// some is n bytes that hang on the seed alone.
func some(seed int64, n int) []byte {
	b := make([]byte, n)
	rand.New(rand.NewSource(seed)).Read(b)
	return b
}

// known is the sum as Go's own library has it.
func known(b []byte) api.Digest { return sha256.Sum256(b) }

// holds fails the test, unless h has eaten just b.
func holds(t *testing.T, what string, h *sha.Hash, b []byte) {
	t.Helper()
	if got := h.Sum(); got != known(b) {
		t.Errorf("%s: Sum %x, want %x", what, got, known(b))
	}
	if h.Len() != len(b) {
		t.Errorf("%s: Len %d, want %d", what, h.Len(), len(b))
	}
}

// P3.1
func TestSumOfTheExamples(t *testing.T) {
	for _, c := range []struct{ text, want string }{
		{"", "e3b0c44298fc1c149afbf4c8996fb92427ae41e4649b934ca495991b7852b855"},
		{"abc", "ba7816bf8f01cfea414140de5dae2223b00361a396177a9cb410ff61f20015ad"},
		{"abcdbcdecdefdefgefghfghighijhijkijkljklmklmnlmnomnopnopq", "248d6a61d20638b8e5c026930c3e6039a33ce45964ff2167f6ecedd419db06c1"},
		{"abcdefghbcdefghicdefghijdefghijkefghijklfghijklmghijklmnhijklmnoijklmnopjklmnopqklmnopqrlmnopqrsmnopqrstnopqrstu", "cf5b16a778af8380036ce59e7b0492370b249b11e8f07a51afac45037afee9d1"},
	} {
		d := sha.Sum([]byte(c.text))
		if got := hex.EncodeToString(d[:]); got != c.want {
			t.Errorf("Sum(%q): %s, want %s", c.text, got, c.want)
		}
	}
	if sha.Sum(nil) != sha.Sum([]byte{}) {
		t.Error("no list and a list without elements have unlike sums")
	}
}

// P3.1: all lengths about the edges of blocks (55, 56, 63, 64 and those of the next ones), and bytes of all sorts.
func TestSumIsTheOneThatIsKnown(t *testing.T) {
	for n := range 400 {
		for _, b := range [][]byte{make([]byte, n), bytes.Repeat([]byte{255}, n), bytes.Repeat([]byte{0x80}, n), some(int64(n), n)} {
			if got := sha.Sum(b); got != known(b) {
				t.Fatalf("Sum of %d bytes % .8x..: %x, want %x", n, b, got, known(b))
			}
		}
	}
	for _, n := range []int{api.MaxBlob - 1, api.MaxBlob, api.MaxBlob + 1, api.MaxSectors * api.SectorSize} {
		b := some(int64(n), n)
		if got := sha.Sum(b); got != known(b) {
			t.Errorf("Sum of %d bytes: %x, want %x", n, got, known(b))
		}
	}
}

// P3.1: from 2^29 bytes on the number of bits has more than four bytes.
func TestSumOfMoreThanFourBytesOfBits(t *testing.T) {
	if testing.Short() {
		t.Skip("half a gigabyte is eaten")
	}
	const piece = 1 << 20
	zeros := make([]byte, piece)
	got, want := sha.New(), sha256.New()
	for range 1 << 29 / piece {
		got.Write(zeros)
		want.Write(zeros)
	}
	got.Write([]byte("abc"))
	want.Write([]byte("abc"))
	if d := api.Digest(want.Sum(nil)); got.Sum() != d || got.Len() != 1<<29+3 {
		t.Errorf("Sum of 2^29 + 3 bytes: %x, want %x (Len %d)", got.Sum(), d, got.Len())
	}
}

// P3.1, P2, P3
func TestSumLeavesWhatItIsHanded(t *testing.T) {
	for _, n := range []int{0, 1, 55, 56, 63, 64, 65, 130} {
		room := some(7, 300)
		first := sha.Sum(room[:n])
		if sha.Sum(room[:n]) != first {
			t.Errorf("a second Sum of %d bytes is another", n)
		}
		if !bytes.Equal(room, some(7, 300)) {
			t.Errorf("of %d bytes: they or the room behind them are others", n)
		}
	}
}

// P3.2
func TestNewHasEatenNothing(t *testing.T) {
	h := sha.New()
	holds(t, "new", h, nil)
	h.Write(nil)
	h.Write([]byte{})
	holds(t, "behind no bytes", h, nil)
	if h == sha.New() {
		t.Error("New answers the same object twice")
	}
}

// P3.2
func TestPiecesAreNotSeen(t *testing.T) {
	b := some(2, 150)
	for i := range len(b) + 1 {
		for j := i; j <= len(b); j++ {
			h := sha.New()
			h.Write(b[:i])
			h.Write(b[i:j])
			h.Write(nil)
			h.Write(b[j:])
			if h.Sum() != known(b) || h.Len() != len(b) {
				t.Fatalf("cut at %d and %d: %x (Len %d), want %x", i, j, h.Sum(), h.Len(), known(b))
			}
		}
	}
	long := some(3, 1000)
	for size := 1; size < 200; size++ {
		h := sha.New()
		for piece := range chunks(long, size) {
			h.Write(piece)
		}
		if h.Sum() != known(long) || h.Len() != len(long) {
			t.Fatalf("in pieces of %d: %x (Len %d), want %x", size, h.Sum(), h.Len(), known(long))
		}
	}
}

// chunks are the bytes in pieces of one size; the last one may be shorter.
func chunks(b []byte, size int) func(func([]byte) bool) {
	return func(yield func([]byte) bool) {
		for i := 0; i < len(b); i += size {
			if !yield(b[i:min(len(b), i+size)]) {
				return
			}
		}
	}
}

// P3.2
func TestOrderOfPiecesIsSeen(t *testing.T) {
	h := sha.New()
	h.Write([]byte("bc"))
	h.Write([]byte("a"))
	holds(t, "bc, a", h, []byte("bca"))
	if h.Sum() == sha.Sum([]byte("abc")) {
		t.Error("the order of the pieces is not seen")
	}
}

// P3.2
func TestAskingChangesNothing(t *testing.T) {
	b := some(4, 200)
	h := sha.New()
	for i := range b {
		holds(t, "asked once", h, b[:i])
		holds(t, "asked twice", h, b[:i])
		h.Write(b[i : i+1])
	}
	holds(t, "at the end", h, b)
}

// P3.2, P2
func TestWriteLeavesAndKeepsNothing(t *testing.T) {
	for _, n := range []int{0, 1, 55, 63, 64, 65, 128, 150} {
		room := some(5, 300)
		h := sha.New()
		h.Write(room[:n])
		h.Sum()
		if !bytes.Equal(room, some(5, 300)) {
			t.Errorf("of %d bytes: they or the room behind them are others", n)
		}
		clear(room)
		holds(t, "behind a change of what was handed in", h, some(5, 300)[:n])
	}
}

// P3.2, P2
func TestWhatIsAnsweredIsTheCallers(t *testing.T) {
	h := sha.New()
	h.Write([]byte("abc"))
	d := h.Sum()
	clear(d[:])
	holds(t, "behind a change of the answer", h, []byte("abc"))
}

// P3.3
func TestCopiesGoOnAlone(t *testing.T) {
	b := some(6, 150)
	for n := range len(b) + 1 {
		h := sha.New()
		h.Write(b[:n])
		c := h.Copy()
		if c == h {
			t.Fatal("Copy answers the object itself")
		}
		holds(t, "the copy", c, b[:n])
		h.Write([]byte("one"))
		holds(t, "the copy, behind the first one's bytes", c, b[:n])
		c.Write(bytes.Repeat([]byte("two"), 30))
		holds(t, "the first one", h, append(bytes.Clone(b[:n]), "one"...))
		holds(t, "the copy", c, append(bytes.Clone(b[:n]), bytes.Repeat([]byte("two"), 30)...))
	}
}

// P3.3
func TestCopiesOfCopies(t *testing.T) {
	var all []*sha.Hash
	b := some(8, 200)
	h := sha.New()
	for i := range b {
		all = append(all, h)
		h = h.Copy()
		h.Write(b[i : i+1])
	}
	for i, h := range all {
		holds(t, "one of a row of copies", h, b[:i])
	}
}

// P5
func TestTwoHashesAreApart(t *testing.T) {
	g, h := sha.New(), sha.New()
	for i := range 100 {
		g.Write([]byte{byte(i)})
		h.Write([]byte{1, 2})
	}
	var one []byte
	for i := range 100 {
		one = append(one, byte(i))
	}
	holds(t, "the one", g, one)
	holds(t, "the other", h, bytes.Repeat([]byte{1, 2}, 100))
}

// P1
func TestNilHash(t *testing.T) {
	var h *sha.Hash
	h.Write(nil)
	h.Write([]byte("abc"))
	h.Write(make([]byte, 200))
	if h.Sum() != (api.Digest{}) {
		t.Errorf("Sum of nil: %x", h.Sum())
	}
	if h.Len() != 0 {
		t.Errorf("Len of nil: %d", h.Len())
	}
	if h.Copy() != nil {
		t.Error("Copy of nil is not nil")
	}
}
