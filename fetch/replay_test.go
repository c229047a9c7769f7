package fetch_test

import (
	"testing"

	"assay/api"
	"assay/mark"
)

// P27.1, P27.2: a disk whose mark is committed is looked at as it stands behind its replay: a tag, an entry and bytes that the batch brings or takes.
func TestBehindTheReplay(t *testing.T) {
	for _, n := range sizes() {
		was := zeros(t, n)
		one, two := was.doc(0, api.Manifest, gone(1)), was.doc(1, api.Manifest, gone(2))
		was.tag(0, "v1", one.Key)
		other := was.copy()
		other.tag(0, "v2", two.Key)
		other.tag(1, "v3", one.Key)

		d := was.copy()
		d.plans(nowhere(1))
		d.commit(api.Write{At: d.g.Tag, Data: other.l[d.g.Tag]})
		d.plans(nowhere(2))
		d.of("v1")
		d.of("v2", nowhere(2))
		d.commit(api.Write{At: d.g.Tag + 1, Data: other.l[d.g.Tag+1]})
		d.plans(nowhere(1))
		d.of("v3", nowhere(1))
		d.commit(api.Write{At: d.g.Dir}) // the tag's entry is gone
		d.plans()
		d.commit(api.Write{At: d.g.Tag, Data: api.Sector{1}}) // the tag is torn
		d.plans()
		d.commit(api.Write{At: d.g.Data, Data: api.Sector{7}}) // its bytes are others
		d.plans()
		first := d.l[d.g.Data]
		d.l[d.g.Data] = api.Sector{7}
		d.commit(api.Write{At: d.g.Data, Data: first}) // its bytes are there again
		d.plans(nowhere(1))
	}
}

// P27.1: a mark that is rubbish is not replayed.
func TestRubbishIsNotReplayed(t *testing.T) {
	for _, n := range sizes() {
		d := zeros(t, n)
		d.tag(0, "v1", d.doc(0, api.Manifest, gone(1)).Key)
		tag := d.g.Tag
		for _, targets := range [][]int{{5}, {2}, {tag + 1, tag}, {tag, tag}, {tag, n}} {
			c := d.copy()
			c.target(targets...)
			is(t, c.image().Mark(), mark.Rubbish)
			c.plans(nowhere(1))
			c.of("v1", nowhere(1))
		}
		d.commit(api.Write{At: tag})
		d.plans()
		d.l[2][63] ^= 1
		d.plans(nowhere(1))
	}
}
