package finding

import (
	"bytes"

	"assay/api"
	"assay/octet"
)

// reader goes through a report's bytes, one thing behind the other. Each of its methods answers a thing, or nothing and the fault.
type reader struct {
	all []byte
	at  int // where the next thing begins
}

// report is all of the bytes.
func (g *reader) report() (api.Report, *Fault) {
	var r api.Report
	var fault *Fault
	if r.Status, fault = g.status(); fault != nil {
		return r, fault
	}
	if r.Findings, fault = list(g, g.finding, byKind); fault != nil {
		return r, fault
	}
	if r.Fetch, fault = list(g, g.digest, byBytes); fault != nil {
		return r, fault
	}
	if r.Dropped, fault = list(g, g.slot, bySlot); fault != nil {
		return r, fault
	}
	return r, g.end()
}

// status is the first four bytes: only when all are there is it asked what they are.
func (g *reader) status() (int, *Fault) {
	b, fault := g.take(firsts)
	if fault != nil {
		return 0, fault
	}
	if string(b[:statusAt]) != head {
		return 0, &Fault{At: 0, Err: api.ErrForm}
	}
	v := int(b[statusAt])
	if !isStatus(v) {
		return 0, &Fault{At: statusAt, Err: api.ErrArg}
	}
	return v, nil
}

// list is how many elements there are, and these, each behind the one before it.
func list[E any](g *reader, one func() (E, *Fault), order func(a, b E) int) ([]E, *Fault) {
	many, fault := g.number(2, anyNumber)
	if fault != nil {
		return nil, fault
	}
	// It grows with what is read: the number alone may say much more than there is.
	var l []E
	for i := range many {
		at := g.at
		v, fault := one()
		if fault != nil {
			return nil, fault
		}
		if i > 0 && order(l[i-1], v) >= 0 {
			return nil, &Fault{At: at, Err: api.ErrForm}
		}
		l = append(l, v)
	}
	return l, nil
}

func (g *reader) finding() (api.Finding, *Fault) {
	kind, fault := g.number(1, isKind)
	if fault != nil {
		return api.Finding{}, fault
	}
	at, fault := g.number(2, isAt)
	if fault != nil {
		return api.Finding{}, fault
	}
	return api.Finding{Kind: kind, At: at}, nil
}

func (g *reader) digest() (api.Digest, *Fault) {
	var d api.Digest
	b, fault := g.take(len(d))
	copy(d[:], b)
	return d, fault
}

func (g *reader) slot() (int, *Fault) { return g.number(2, isSlot) }

// end is the sum, and nothing behind it.
func (g *reader) end() *Fault {
	at := g.at
	sum, fault := g.take(sumSize)
	if fault != nil {
		return fault
	}
	if !bytes.Equal(sum, sumOf(g.all[:at])) {
		return &Fault{At: at, Err: api.ErrSum}
	}
	if g.at < len(g.all) {
		return &Fault{At: g.at, Err: api.ErrRest}
	}
	return nil
}

// number is the next number, of one or two bytes.
func (g *reader) number(size int, within func(int) bool) (int, *Fault) {
	at := g.at
	b, fault := g.take(size)
	if fault != nil {
		return 0, fault
	}
	v := int(octet.U16(octet.PutBytes(api.Sector{}, 0, b), 0))
	if !within(v) {
		return 0, &Fault{At: at, Err: api.ErrRange}
	}
	return v, nil
}

func anyNumber(int) bool { return true }

// take is the next bytes of one thing; they are the caller's still, so that they are read and not handed out.
func (g *reader) take(size int) ([]byte, *Fault) {
	if size > len(g.all)-g.at {
		return nil, &Fault{At: g.at, Err: api.ErrShort}
	}
	b := g.all[g.at : g.at+size]
	g.at += size
	return b, nil
}
