package manifest_test

import (
	"bytes"
	"slices"
	"strings"
	"sync"
	"testing"

	"assay/api"
	"assay/manifest"
)

// samples is texts of documents, and of what is none.
func samples() []string {
	l := []string{"", "[]", "{}", "null", `{"schemaVersion":2,"manifests":[]}`, `{"schemaVersion":2,"manifests":[null]}`, `{"schemaVersion":1,"manifests":[]}`, "{", strings.Repeat(" ", 4097)}
	for _, kind := range kinds() {
		for _, n := range []int{1, 2, 5, 32, 33} {
			l = append(l, document(kind, descs(n)))
		}
	}
	return l
}

// fill writes into a list and behind it, as a caller may.
func fill[T any](l []T, v T) {
	for i := range l[:cap(l)] {
		l[:cap(l)][i] = v
	}
}

// P2: Read keeps and changes nothing that is handed in, nor the room behind it; what it answers is new memory.
func TestReadsMemory(t *testing.T) {
	for _, s := range samples() {
		wantKind, want := judged(s)
		room := []byte(s + `,"layers":[]}} behind`)
		kept := bytes.Clone(room)
		kind, one := manifest.Read(room[:len(s)])
		_, two := manifest.Read(room[:len(s)])
		if !bytes.Equal(room, kept) {
			t.Fatalf("%.200q has become %.200q", kept, room)
		}
		fill(room, '#')
		if kind != wantKind || !slices.Equal(one, want) || !slices.Equal(two, want) {
			t.Fatalf("%.200s: %d, %d named, then %d", s, kind, len(one), len(two))
		}
		fill(one, api.Desc{Size: -7})
		kind, three := manifest.Read([]byte(s))
		if kind != wantKind || !slices.Equal(two, want) || !slices.Equal(three, want) {
			t.Fatalf("%.200s: an answer's change is seen", s)
		}
	}
}

// P2: Write keeps and changes nothing that is handed in, nor the room behind it; what it answers is new memory.
func TestWritesMemory(t *testing.T) {
	for _, kind := range []int{api.Plain, api.Manifest, api.Index, 3} {
		for _, n := range []int{0, 1, 2, 31, 32, 33} {
			for _, size := range []int{-1, 0, 7, 2147483648} {
				room := descs(n + 5)
				for i := range room {
					room[i].Size = size
				}
				room[n].Size = -5
				kept := slices.Clone(room)
				one, bad := manifest.Write(kind, room[:n])
				two, _ := manifest.Write(kind, room[:n])
				want := string(one)
				if !slices.Equal(room, kept) {
					t.Fatal(kind, n, size, "what is handed in has changed")
				}
				fill(room, api.Desc{Size: 5})
				fill(one, '#')
				three, e := manifest.Write(kind, kept[:n])
				if string(two) != want || string(three) != want || e != bad {
					t.Fatal(kind, n, size, "a change is seen")
				}
			}
		}
	}
}

// P3, P5: calls that run at once have nothing to do with each other.
func TestAtOnce(t *testing.T) {
	var wait sync.WaitGroup
	for i := range 8 {
		wait.Go(func() {
			for n := 1; n <= 32; n++ {
				kind := kinds()[(i+n)%2]
				l := descs(n)
				b, e := manifest.Write(kind, l)
				k, named := manifest.Read(b)
				if e != api.OK || k != kind || !slices.Equal(named, l) {
					t.Error(i, n, e, k, len(named))
				}
			}
		})
	}
	wait.Wait()
}
