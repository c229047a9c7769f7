package maker_test

import (
	"math"
	"testing"

	"assay/api"
)

// P29.4: the id 0, with whatever else applies.
func TestNoID(t *testing.T) {
	for _, n := range few() {
		p := made(t, n)
		abc := p.one("abc")
		for range 2 {
			p.shoot(api.ErrArg, 0, 0, abc.Key)
			p.shoot(api.ErrArg, 0, 9999, abc.Key)
			p.shoot(api.ErrArg, 0, 0, nowhere(1).Key)
			p.shoot(api.ErrArg, 0, 9999, nowhere(1).Key)
			p.fillSnaps(abc.Key)
		}
		p.check()
	}
}

// fillSnaps puts snapshots till no slot of theirs is free.
func (p *pair) fillSnaps(layer api.Digest) {
	p.t.Helper()
	for i := len(p.shots); i < p.snaps; i++ {
		p.shoot(api.OK, uint32(i+1), 0, layer)
	}
}

// P29.4: an id that is there.
func TestSnapTwice(t *testing.T) {
	for _, n := range few() {
		p := made(t, n)
		abc, def := p.one("abc"), p.one("def")
		for _, id := range []uint32{1, 7, math.MaxUint32} {
			p.shoot(api.OK, id, 0, abc.Key)
			p.shoot(api.ErrTwice, id, 0, abc.Key)
			p.shoot(api.ErrTwice, id, 1, def.Key)
			p.shoot(api.ErrTwice, id, id, def.Key)
			p.shoot(api.ErrTwice, 1, 0, def.Key)
		}
		p.check()
	}
}

// P29.4: a layer that is no blob here, or that will be one only later.
func TestNoLayer(t *testing.T) {
	for _, n := range few() {
		p := made(t, n)
		for _, layer := range []api.Digest{{}, {1}, keyOf(""), keyOf("abc")} {
			p.shoot(api.ErrEmpty, 1, 0, layer)
		}
		p.one("abc")
		p.shoot(api.ErrEmpty, 1, 0, keyOf(""))
		p.shoot(api.OK, 1, 0, keyOf("abc"))
		p.shoot(api.ErrEmpty, 2, 1, keyOf(""))
		p.one("")
		p.shoot(api.OK, 2, 1, keyOf(""))
		p.check()
	}
}

// P29.4: any blob may be a layer: a document of which something is missing, too.
func TestLayersThatAreNotWhole(t *testing.T) {
	p := made(t, 64)
	lost := p.doc(api.Index, nowhere(1))
	p.pin(api.ErrEmpty, "v1", lost.Key)
	p.shoot(api.OK, 1, 0, lost.Key)
	p.shoot(api.OK, 2, 1, lost.Key)
	p.check()
}

// P29.4: a parent that isn't there, itself among them, or that will be there only later.
func TestNoParent(t *testing.T) {
	for _, n := range few() {
		p := made(t, n)
		abc := p.one("abc")
		p.shoot(api.ErrEmpty, 1, 1, abc.Key)
		p.shoot(api.ErrEmpty, 1, 2, abc.Key)
		p.shoot(api.ErrEmpty, 2, 1, abc.Key)
		p.shoot(api.OK, 2, 0, abc.Key)
		p.shoot(api.ErrEmpty, 1, 1, abc.Key)
		p.shoot(api.ErrEmpty, 1, 3, abc.Key)
		p.shoot(api.OK, 1, 2, abc.Key)
		p.shoot(api.ErrEmpty, math.MaxUint32, math.MaxUint32, abc.Key)
		p.shoot(api.ErrEmpty, 3, 256, abc.Key)
		p.shoot(api.OK, 3, 1, abc.Key)
		p.check()
	}
}

// P29.4: the greatest ids, as ids and as parents; ids that are the same in their lower bytes.
func TestGreatIDs(t *testing.T) {
	for _, n := range few() {
		p := made(t, n)
		abc := p.one("abc")
		p.shoot(api.OK, math.MaxUint32, 0, abc.Key)
		p.shoot(api.ErrEmpty, math.MaxUint32-1, 1<<31, abc.Key)
		p.shoot(api.OK, 1<<31, math.MaxUint32, abc.Key)
		p.shoot(api.OK, math.MaxUint32-1, 1<<31, abc.Key)
		p.shoot(api.OK, 0xFF, math.MaxUint32-1, abc.Key)
		p.shoot(api.ErrTwice, math.MaxUint32, 0xFF, abc.Key)
		p.check()
	}
}

// P29.4: no slot of the snapshots is free; a chain of them, and all of one parent.
func TestFullBySnaps(t *testing.T) {
	for _, n := range sizes() {
		for _, chain := range []uint32{0, 1} {
			p := made(t, n)
			layers := []api.Digest{p.one("abc").Key, p.one("").Key}
			p.shoot(api.OK, 1, 0, layers[0])
			for i := uint32(1); i < uint32(p.snaps); i++ {
				p.shoot(api.OK, i+1, 1+chain*(i-1), layers[i%2])
			}
			p.shoot(api.ErrFull, 9999, 0, layers[0])
			p.shoot(api.ErrFull, 9999, uint32(p.snaps), layers[0])
			p.shoot(api.ErrFull, 9999, 0, layers[0])
			p.check()
		}
	}
}

// P29.4, P4: where several apply at once, the one that the chapter names first.
func TestTheFirstOfSnaps(t *testing.T) {
	for _, n := range few() {
		p := made(t, n)
		abc := p.one("abc")
		p.fillSnaps(abc.Key)
		for range 2 {
			p.shoot(api.ErrArg, 0, 9999, nowhere(1).Key)
			p.shoot(api.ErrTwice, 1, 9999, nowhere(1).Key)
			p.shoot(api.ErrTwice, 1, 0, nowhere(1).Key)
			p.shoot(api.ErrTwice, 1, 1, abc.Key)
			p.shoot(api.ErrEmpty, 9999, 9999, abc.Key)
			p.shoot(api.ErrEmpty, 9999, 1, nowhere(1).Key)
			p.shoot(api.ErrEmpty, 9999, 9998, nowhere(1).Key)
			p.shoot(api.ErrFull, 9999, 1, abc.Key)
		}
		p.check()
	}
}
