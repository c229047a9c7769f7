package table

import (
	"assay/api"
	"assay/crc"
	"assay/name"
	"assay/octet"
)

// page is what the three codecs share: the sector that one of them reads or lays.
type page struct{ s api.Sector }

// unread is the state of a sector that tells nothing right.
func (p page) unread() int {
	if octet.Zero(p.s) {
		return Free
	}
	return Torn
}

// sealed is the sector as it was laid, with its sum.
func (p page) sealed() api.Sector { return crc.Seal(p.s) }

// begin lays the byte by which a sector tells its kind.
func (p *page) begin(kind byte) { p.s[0] = kind }

func (p page) number(at int) uint32 { return octet.U32(p.s, at) }

func (p *page) putNumber(at int, v uint32) { p.s = octet.PutU32(p.s, at, v) }

func (p page) digest(at int) api.Digest {
	var d api.Digest
	copy(d[:], octet.Bytes(p.s, at, len(d)))
	return d
}

func (p *page) putDigest(at int, d api.Digest) { p.s = octet.PutBytes(p.s, at, d[:]) }

// tagKind is a tag's first byte.
const tagKind = 0x54

// The places in a tag's sector.
const (
	lengthAt = 1
	nameAt   = 2
	keyAt    = nameAt + api.MaxName
)

type tagCodec struct{ page }

// told is what stands at a tag's places, be the sector a tag's or not; what is no name is told as none.
func (c tagCodec) told() api.Tag {
	text, _ := name.Get(octet.Bytes(c.s, nameAt, api.MaxName), int(c.s[lengthAt]))
	return api.Tag{Name: text, Key: c.digest(keyAt)}
}

func (c *tagCodec) lay(t api.Tag) api.Errno {
	text, bad := name.Put(t.Name)
	if bad != api.OK {
		return bad
	}
	c.begin(tagKind)
	c.s[lengthAt] = byte(len(t.Name))
	c.s = octet.PutBytes(c.s, nameAt, text)
	c.putDigest(keyAt, t.Key)
	return api.OK
}

// snapKind is a snapshot's first byte.
const snapKind = 0x53

// The places in a snapshot's sector.
const (
	idAt     = 4
	parentAt = 8
	layerAt  = 12
)

type snapCodec struct{ page }

// told is what stands at a snapshot's places, be the sector a snapshot's or not.
func (c snapCodec) told() api.Snap {
	return api.Snap{ID: c.number(idAt), Parent: c.number(parentAt), Layer: c.digest(layerAt)}
}

func (c *snapCodec) lay(x api.Snap) api.Errno {
	if x.ID == 0 {
		return api.ErrArg
	}
	c.begin(snapKind)
	c.putNumber(idAt, x.ID)
	c.putNumber(parentAt, x.Parent)
	c.putDigest(layerAt, x.Layer)
	return api.OK
}

// wide is how many bytes a count has.
const wide = 4

// most is how many counts stand ahead of a sector's sum.
const most = (api.SectorSize - 4) / wide

type countsCodec struct{ page }

// told is the first n numbers, be the sector one of counts or not.
func (c countsCodec) told(n int) []uint32 {
	l := make([]uint32, n)
	for i := range l {
		l[i] = c.number(wide * i)
	}
	return l
}

func (c *countsCodec) lay(l []uint32) api.Errno {
	if len(l) > most {
		return api.ErrLong
	}
	for i, v := range l {
		c.putNumber(wide*i, v)
	}
	return api.OK
}
