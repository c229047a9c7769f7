package manifest_test

import (
	"bytes"
	"math"
	"math/rand"
	"slices"
	"testing"

	"assay/api"
	"assay/json"
	"assay/manifest"
	"assay/sha"
)

// written holds what Write answers.
func written(t *testing.T, kind int, l []api.Desc, want string, bad api.Errno) {
	t.Helper()
	b, e := manifest.Write(kind, l)
	if string(b) != want || e != bad {
		t.Fatalf("Write(%d, %d of them): %.400s, %d, want %.400s, %d", kind, len(l), b, e, want, bad)
	}
}

// P16.2: the chapter's examples.
func TestWritesExamples(t *testing.T) {
	written(t, api.Index, nil, `{"schemaVersion":2,"manifests":[]}`, api.OK)
	written(t, api.Index, []api.Desc{}, `{"schemaVersion":2,"manifests":[]}`, api.OK)
	written(t, api.Manifest, nil, "", api.ErrArg)
	written(t, api.Manifest, []api.Desc{}, "", api.ErrArg)
	written(t, api.Manifest, []api.Desc{{Key: sha.Sum(nil)}}, `{"schemaVersion":2,"config":{"digest":"sha256:e3b0c44298fc1c149afbf4c8996fb92427ae41e4649b934ca495991b7852b855","size":0},"layers":[]}`, api.OK)
}

// P16.2, P16.3: each number of descriptors, with sizes at their edges.
func TestWrites(t *testing.T) {
	sizes := []int{0, 1, 9, 10, 99, 4096, 65536, 1000000000, 2147483646, 2147483647}
	for _, kind := range kinds() {
		for n := range 33 {
			if kind == api.Manifest && n == 0 {
				continue
			}
			for _, size := range sizes {
				l := descs(n)
				for i := range l {
					l[i].Size = size
				}
				written(t, kind, l, document(kind, l), api.OK)
			}
			l := descs(n)
			for i := range l {
				l[i].Size = sizes[i%len(sizes)]
			}
			written(t, kind, l, document(kind, l), api.OK)
			b, _ := manifest.Write(kind, l)
			if len(b) >= 4096 || bytes.ContainsAny(b, " \t\r\n") {
				t.Error(kind, n, len(b))
			}
			read(t, string(b), kind, l)
		}
	}
}

// P16.2: a list handed in with the same descriptors keeps them all, in their order.
func TestWritesSame(t *testing.T) {
	for _, kind := range kinds() {
		l := []api.Desc{desc(3), desc(1), desc(3), desc(2), desc(1), {}, {}}
		written(t, kind, l, document(kind, l), api.OK)
		read(t, document(kind, l), kind, l)
	}
}

// noKinds is numbers that are no document's kind.
func noKinds() []int {
	return []int{api.Plain, -1, -2, 3, 4, 255, 256, 257, 258, 1 << 16, 1<<32 + 1, 1<<32 + 2, math.MaxInt, math.MinInt, math.MinInt + 1}
}

// badSizes is numbers that are no size.
func badSizes() []int {
	return []int{-1, -2, -2147483648, math.MinInt, math.MinInt + 7, 2147483648, 2147483649, 4294967295, 4294967296, 4294967303, math.MaxInt}
}

// P16.2: each fault alone, and several at once: the chapter's order, whatever their places.
func TestWritesFaults(t *testing.T) {
	for _, n := range []int{0, 1, 2, 5, 31, 32, 33, 34, 64, 1000} {
		good := descs(n)
		for _, kind := range append(noKinds(), kinds()...) {
			want := api.OK
			switch {
			case !slices.Contains(kinds(), kind), kind == api.Manifest && n == 0:
				want = api.ErrArg
			case n > 32:
				want = api.ErrLong
			}
			s := ""
			if want == api.OK {
				s = document(kind, good)
			}
			written(t, kind, good, s, want)
			if want == api.OK {
				want = api.ErrRange
			}
			for i := range n {
				if i > 40 && i < n-2 {
					continue
				}
				for _, size := range badSizes() {
					l := slices.Clone(good)
					l[i].Size = size
					written(t, kind, l, "", want)
					l[(i+1)%n].Size = -1
					written(t, kind, l, "", want)
				}
			}
		}
	}
	for _, kind := range kinds() {
		written(t, kind, make([]api.Desc, 1<<20), "", api.ErrLong)
	}
}

// P16.3: there and back, of any documents.
func TestThereAndBack(t *testing.T) {
	r := rand.New(rand.NewSource(18))
	for range 3000 {
		kind := kinds()[r.Intn(2)]
		l := make([]api.Desc, r.Intn(33))
		for i := range l {
			r.Read(l[i].Key[:])
			l[i].Size = int(r.Int31() >> r.Intn(31))
		}
		if kind == api.Manifest && len(l) == 0 {
			continue
		}
		b, e := manifest.Write(kind, l)
		if e != api.OK || len(b) >= 4096 || string(b) != document(kind, l) {
			t.Fatal(kind, len(l), e, len(b))
		}
		read(t, string(b), kind, l)
		// It is JSON as chapter 15 prints it.
		v, _, _ := json.Parse(b)
		if s, e := json.Print(v); e != api.OK || s != string(b) {
			t.Fatal(s, e)
		}
	}
}

// P16.3: what is read of a document in any form is written in the one form, which names the same.
func TestBackAndThere(t *testing.T) {
	r := rand.New(rand.NewSource(19))
	for range 2000 {
		kind, l := manifest.Read([]byte(anyDocument(r)))
		if kind == api.Plain {
			written(t, kind, l, "", api.ErrArg)
			continue
		}
		written(t, kind, l, document(kind, l), api.OK)
		read(t, document(kind, l), kind, l)
	}
}
