// Package octet: numbers and bytes at places of a sector: see DOC.md, chapter 1.
package octet

import "assay/api"

// U16 is a number of two bytes.
func U16(s api.Sector, at int) uint16 { return uint16(number(s, at, 2)) }

// U32 is a number of four bytes.
func U32(s api.Sector, at int) uint32 { return number(s, at, 4) }

// Bytes is some bytes.
func Bytes(s api.Sector, at int, n int) []byte {
	if !within(at, n) {
		return nil
	}
	b := make([]byte, n)
	copy(b, s[at:at+n])
	return b
}

// PutU16 puts a number of two bytes.
func PutU16(s api.Sector, at int, v uint16) api.Sector { return putNumber(s, at, 2, uint32(v)) }

// PutU32 puts a number of four bytes.
func PutU32(s api.Sector, at int, v uint32) api.Sector { return putNumber(s, at, 4, v) }

// PutBytes puts some bytes.
func PutBytes(s api.Sector, at int, b []byte) api.Sector {
	if !within(at, len(b)) {
		return s
	}
	// s is the callee's own copy, so the caller's sector stays.
	copy(s[at:], b)
	return s
}

// Zero: are all bytes 0?
func Zero(s api.Sector) bool { return s == api.Sector{} }

// ZeroFrom: are those from a place to below another one?
func ZeroFrom(s api.Sector, from int, to int) bool {
	if from < 0 || from > to || to > api.SectorSize {
		return false
	}
	// Laid alone into a sector of zeros, the part can be held against zeros as one value.
	var part api.Sector
	copy(part[from:to], s[from:to])
	return Zero(part)
}

// within asks by a difference, since the sum of two great numbers wraps round.
func within(at, n int) bool {
	return at >= 0 && n >= 0 && n <= api.SectorSize-at
}

// number is the number of n bytes at a place, the lowest first; 0, if it isn't within.
func number(s api.Sector, at, n int) uint32 {
	if !within(at, n) {
		return 0
	}
	var v uint32
	for i := range n {
		v |= uint32(s[at+i]) << (8 * i)
	}
	return v
}

// putNumber is the sector with the n lowest bytes of a number at a place; s itself, if it isn't within.
func putNumber(s api.Sector, at, n int, v uint32) api.Sector {
	if !within(at, n) {
		return s
	}
	for i := range n {
		s[at+i] = byte(v >> (8 * i))
	}
	return s
}
