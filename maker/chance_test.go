package maker_test

import (
	"fmt"
	"math/rand"
	"testing"

	"assay/api"
)

// anyOf is one of a list.
func anyOf[T any](r *rand.Rand, l []T) T { return l[r.Intn(len(l))] }

// anyDesc is the descriptor of a blob that is there, that may come later, or that has another size.
func (p *pair) anyDesc(r *rand.Rand) api.Desc {
	d := nowhere(r.Intn(4))
	if len(p.blobs) > 0 && r.Intn(8) > 0 {
		b := anyOf(r, p.blobs).bytes
		d = api.Desc{Key: keyOf(b), Size: len(b)}
	}
	if r.Intn(20) == 0 {
		d.Size++
	}
	return d
}

// anyBytes is a blob's bytes: plain ones, documents, ones that are there, ones that are too long.
func (p *pair) anyBytes(r *rand.Rand) string {
	switch r.Intn(8) {
	case 0:
		return fmt.Sprint("nowhere", r.Intn(4))
	case 1:
		return text(r.Intn(9), anyOf(r, []int{0, 1, 63, 64, 65, 128, 200}))
	case 2:
		if len(p.blobs) > 0 {
			return anyOf(r, p.blobs).bytes
		}
		return ""
	case 3:
		return text(r.Intn(99), r.Intn(4200))
	case 4:
		return text(r.Intn(99), r.Intn(500))
	}
	var named []api.Desc
	for range 1 + r.Intn(5) {
		named = append(named, p.anyDesc(r))
	}
	return page(p.t, anyOf(r, []int{api.Manifest, api.Index}), named...)
}

// anyCall is a call by chance: what it answers must be what the model does.
func (p *pair) anyCall(r *rand.Rand) {
	p.t.Helper()
	switch r.Intn(4) {
	case 0, 1:
		var l []string
		for range r.Intn(4) {
			l = append(l, p.anyBytes(r))
		}
		ahead := *p.model
		_, want := ahead.put(l...)
		p.put(want, l...)
	case 2:
		name, key := fmt.Sprint("t", r.Intn(2+p.tags)), p.anyDesc(r).Key
		if r.Intn(9) == 0 {
			name = anyOf(r, noNames())
		}
		ahead := *p.model
		p.pin(ahead.pin(name, key), name, key)
	case 3:
		snap := api.Snap{ID: uint32(r.Intn(3 + p.snaps)), Layer: p.anyDesc(r).Key}
		if r.Intn(2) > 0 {
			snap.Parent = uint32(r.Intn(3 + p.snaps))
		}
		ahead := *p.model
		p.shoot(ahead.shoot(snap), snap.ID, snap.Parent, snap.Layer)
	}
}

// P29.1 to P29.6: any calls in any order, on disks of all sizes.
func TestAnyCalls(t *testing.T) {
	r := rand.New(rand.NewSource(290))
	for _, n := range sizes() {
		for range 1 + 640/n {
			p := made(t, n)
			calls := 40 + n/8
			for i := range calls {
				p.anyCall(r)
				if i%20 == 0 {
					p.check()
				}
			}
			p.check()
		}
	}
}

// P29.1: of every number of sectors, a few calls.
func TestAnyCallsOfEverySize(t *testing.T) {
	r := rand.New(rand.NewSource(291))
	for n := 64; n <= 1024; n++ {
		if n > 130 && n%7 != 0 {
			continue
		}
		p := made(t, n)
		for range 6 {
			p.anyCall(r)
		}
		p.check()
	}
}
