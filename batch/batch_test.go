package batch_test

import (
	"testing"

	"assay/api"
	"assay/batch"
)

// The chapter's first example.
func TestExampleOrder(t *testing.T) {
	are(t, cut(t, writes(5, 3, 9)), "[3 5 9]")
	are(t, cut(t, writes(20, 19, 18, 17, 16, 15, 14, 13, 12, 11, 10)), "[10 11 12 13 14 15 16 17] [18 19 20]")
}

// The chapter's second example.
func TestExampleTwice(t *testing.T) {
	x, y := api.Write{At: 5, Data: data('X')}, api.Write{At: 5, Data: data('Y')}
	got := cut(t, []api.Write{x, y})
	if len(got) != 1 || len(got[0]) != 1 || got[0][0] != y {
		t.Errorf("%s", told(got))
	}
	are(t, cut(t, nil), "")
	are(t, cut(t, writes(-1, 1<<63-1)), "[-1 9223372036854775807]")
}

// The chapter's third example.
func TestExampleLeft(t *testing.T) {
	x, y, z := api.Write{At: 5, Data: data('X')}, api.Write{At: 3, Data: data('Y')}, api.Write{At: 5, Data: data('Z')}
	got := left(t, []api.Write{x, y}, []api.Write{z})
	if len(got) != 1 || got[0] != y {
		t.Errorf("%v", sectors(got))
	}
}

// P1, P26.1, P26.2: of no writes there is no batch, and none is left.
func TestNothing(t *testing.T) {
	for _, l := range [][]api.Write{nil, {}, writes(1, 2, 3)[:0]} {
		if got := batch.Cut(l); len(got) != 0 {
			t.Errorf("Cut of none: %d batches", len(got))
		}
		for _, done := range [][][]api.Write{nil, {}, {nil}, {nil, {}, nil}, {writes(0)}, {writes(1, 2), nil, writes(3)}} {
			if got := batch.Left(l, done); len(got) != 0 {
				t.Errorf("Left of none, with %s done: %v", told(done), sectors(got))
			}
		}
	}
}

// The limit is the one of api, and just so many are allowed.
func TestLimit(t *testing.T) {
	if api.MaxBatch != 8 {
		t.Fatalf("MaxBatch is %d", api.MaxBatch)
	}
	if got := cut(t, writes(from(0, api.MaxBatch)...)); len(got) != 1 {
		t.Errorf("%d batches", len(got))
	}
	if got := cut(t, writes(from(0, api.MaxBatch+1)...)); len(got) != 2 {
		t.Errorf("%d batches", len(got))
	}
}
