package maker_test

import (
	"fmt"
	"strings"
	"testing"

	"assay/api"
)

// letters is a name of n bytes.
func letters(n int) string { return strings.Repeat("abcdefghij", n/10+1)[:n] }

// noNames is texts that name no tag.
func noNames() []string {
	return []string{"", ".", "-", ".v", "-v", "a b", " a", "a ", "a/b", "a:b", "a\n", "a\x00", "\x00", "é", "aé", "\xff", "a\xff", letters(25), letters(26), letters(300), letters(65536)}
}

// P29.3: texts that are names, of plain blobs and of documents that are whole.
func TestNames(t *testing.T) {
	p := made(t, 1024)
	abc := p.one("abc")
	doc := p.doc(api.Index, abc)
	for i, s := range []string{"v1", "_", "0.9-rc_1", "a", "A", "aA", "v", "v11", "V1", "0", "z.", "z-", "9", "_.-", letters(23), letters(24), strings.ToUpper(letters(24))} {
		p.pin(api.OK, s, []api.Digest{abc.Key, doc.Key}[i%2])
		p.pin(api.ErrTwice, s, abc.Key)
	}
	p.check()
}

// P29.3: texts that are no names, with whatever else applies.
func TestNoNames(t *testing.T) {
	for _, n := range few() {
		p := made(t, n)
		abc := p.one("abc")
		for range 2 {
			for _, s := range noNames() {
				p.pin(api.ErrName, s, abc.Key)
				p.pin(api.ErrName, s, nowhere(1).Key)
			}
			p.fillTags(abc.Key)
		}
		p.check()
	}
}

// fillTags puts tags till no slot of theirs is free.
func (p *pair) fillTags(key api.Digest) {
	p.t.Helper()
	for i := len(p.pins); i < p.tags; i++ {
		p.pin(api.OK, fmt.Sprint("tag", i), key)
	}
}

// P29.3: keys of which there is no blob.
func TestTagsOfNobody(t *testing.T) {
	for _, n := range few() {
		p := made(t, n)
		for _, key := range []api.Digest{{}, {1}, keyOf(""), keyOf("abc"), nowhere(1).Key} {
			p.pin(api.ErrEmpty, "v1", key)
		}
		p.put(api.OK, "abc")
		other := keyOf("abc")
		other[31]++
		p.pin(api.ErrEmpty, "v1", other)
		p.pin(api.ErrEmpty, "v1", keyOf(""))
		p.put(api.OK, "")
		p.pin(api.OK, "v1", keyOf(""))
		p.pin(api.OK, "v2", keyOf("abc"))
		p.check()
	}
}

// P29.3: a document of which something is missing, directly: the tag is taken once that is put.
func TestMissing(t *testing.T) {
	for _, n := range few() {
		p := made(t, n)
		abc, gone := p.one("abc"), nowhere(1)
		for i, named := range [][]api.Desc{{gone}, {abc, gone}, {gone, abc}} {
			doc := p.doc(api.Manifest+i%2, named...)
			p.pin(api.ErrEmpty, fmt.Sprint("v", i), doc.Key)
			p.pin(api.ErrEmpty, fmt.Sprint("v", i), doc.Key)
		}
		p.check()
		p.one("nowhere1")
		for i, b := range p.blobs[1:4] {
			p.pin(api.OK, fmt.Sprint("v", i), keyOf(b.bytes))
		}
		p.check()
	}
}

// P29.3: a chain of documents, with what the last one names missing, and there; and so with each of the chain missing.
func TestMissingDeeper(t *testing.T) {
	const deep = 40
	for _, without := range []int{0, 1, 7, deep - 1} {
		p := made(t, 1024)
		last := api.Desc{Key: keyOf("end"), Size: 3}
		chain := []string{"end"}
		for i := range deep {
			b := page(t, api.Manifest+i%2, last)
			chain = append(chain, b)
			last = api.Desc{Key: keyOf(b), Size: len(b)}
		}
		for i, b := range chain {
			if i != without {
				p.one(b)
			}
		}
		for i, b := range chain {
			switch {
			case i < without:
				p.pin(api.OK, fmt.Sprint("v", i), keyOf(b))
			default:
				p.pin(api.ErrEmpty, fmt.Sprint("v", i), keyOf(b))
			}
		}
		p.one(chain[without])
		for i := without; i < len(chain); i++ {
			p.pin(api.OK, fmt.Sprint("v", i), keyOf(chain[i]))
		}
		p.check()
	}
}

// P29.3: a descriptor of another size meets nothing, directly and deeper, whatever is put later.
func TestAnotherSize(t *testing.T) {
	for _, n := range few() {
		for _, size := range []int{0, 2, 4, 3 + 65536, 2147483647} {
			p := made(t, n)
			doc := p.doc(api.Index, api.Desc{Key: keyOf("abc"), Size: size})
			up := p.doc(api.Index, doc)
			p.pin(api.ErrEmpty, "v1", doc.Key)
			p.one("abc")
			p.pin(api.ErrEmpty, "v1", doc.Key)
			p.pin(api.ErrEmpty, "v1", up.Key)
			p.pin(api.OK, "v1", keyOf("abc"))
			p.check()
		}
		p := made(t, n)
		none := p.one("")
		p.pin(api.OK, "v1", p.doc(api.Index, none).Key)
		none.Size = 1
		p.pin(api.ErrEmpty, "v2", p.doc(api.Index, none).Key)
		p.check()
	}
}

// P29.3: documents that are whole: of nothing, of the same more than once, of one another in many ways.
func TestWholeDocuments(t *testing.T) {
	p := made(t, 1024)
	p.pin(api.OK, "none", p.doc(api.Index).Key)
	a, b := p.one("a"), p.one("b")
	one := p.doc(api.Manifest, a, b, a, a)
	two := p.doc(api.Index, one, one, a)
	three := p.doc(api.Index, two, one, b, two)
	for i, d := range []api.Desc{three, a, one, b, two, three} {
		p.pin(api.OK, fmt.Sprint("v", i), d.Key)
	}
	var many []api.Desc
	for range api.MaxDescs {
		many = append(many, a)
	}
	p.pin(api.OK, "many", p.doc(api.Index, many...).Key)
	p.check()
}

// P29.3: what is no document names nothing, so nothing is missing: one descriptor too many, a byte too much, another version.
func TestPlainOnes(t *testing.T) {
	p := made(t, 1024)
	whole := page(t, api.Index, nowhere(1))
	for i, b := range []string{whole + "x", whole[1:], strings.Replace(whole, "2", "1", 1), "[" + whole + "]", manyDescs(t)} {
		p.pin(api.OK, fmt.Sprint("v", i), p.one(b).Key)
	}
	p.pin(api.ErrEmpty, "doc", p.one(whole+" ").Key)
	p.check()
}

// manyDescs is an index of one descriptor more than may be.
func manyDescs(t *testing.T) string {
	d := strings.TrimSuffix(strings.TrimPrefix(page(t, api.Index, nowhere(1)), `{"schemaVersion":2,"manifests":[`), "]}")
	return `{"schemaVersion":2,"manifests":[` + strings.Repeat(d+",", api.MaxDescs) + d + "]}"
}

// P29.3: no slot of the tags is free.
func TestFullByTags(t *testing.T) {
	for _, n := range sizes() {
		p := made(t, n)
		abc := p.one("abc")
		p.fillTags(abc.Key)
		p.pin(api.ErrFull, "v1", abc.Key)
		p.pin(api.ErrFull, "v1", abc.Key)
		p.check()
	}
}

// P29.3, P4: where several apply at once, the one that the chapter names first.
func TestTheFirstOfTags(t *testing.T) {
	for _, n := range few() {
		p := made(t, n)
		abc := p.one("abc")
		lost := p.doc(api.Index, nowhere(1))
		p.pin(api.OK, "v1", abc.Key)
		p.pin(api.ErrTwice, "v1", lost.Key)
		p.pin(api.ErrTwice, "v1", nowhere(1).Key)
		p.fillTags(abc.Key)
		for range 2 {
			p.pin(api.ErrName, "", abc.Key)
			p.pin(api.ErrName, ".v1", nowhere(1).Key)
			p.pin(api.ErrTwice, "v1", abc.Key)
			p.pin(api.ErrTwice, "v1", lost.Key)
			p.pin(api.ErrEmpty, "v2", lost.Key)
			p.pin(api.ErrEmpty, "v2", nowhere(1).Key)
			p.pin(api.ErrFull, "v2", abc.Key)
		}
		p.one("nowhere1")
		p.pin(api.ErrFull, "v2", lost.Key)
		p.check()
	}
}

// P29.3: all slots of the directory and all data sectors may be taken: a tag needs neither.
func TestTagsOfAFullStore(t *testing.T) {
	for _, n := range few() {
		p := made(t, n)
		p.fillBoth()
		for i := range p.tags {
			p.pin(api.OK, fmt.Sprint("v", i), keyOf(p.blobs[p.slots-1-i].bytes))
		}
		p.check()
	}
}
