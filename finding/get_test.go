package finding_test

import (
	"bytes"
	"encoding/binary"
	"slices"
	"testing"

	"assay/api"
	"assay/finding"
)

// The chapter's two reports, with their sums.
const (
	cleanBytes    = "415201 01 0000 0000 0000 32668BA4"
	repairedBytes = "415201 02 0200 020000 020100 0000 0100 0500 88A4C380"
)

// zeros is a digest's bytes with some at its beginning, in base sixteen.
func zeros(first string) string {
	return first + "0000000000000000000000000000000000000000000000000000000000000000"[len(first):]
}

// sums is the bytes with their sum, in base sixteen; the blanks stay out.
func sums(text string) []byte { return sealed(raw(text)) }

// samples is reports with and without elements in each list.
func samples() []api.Report {
	var l []api.Report
	all := full(3)
	for i := range 8 {
		r := api.Report{Status: 1 + i%2}
		if i&1 > 0 {
			r.Findings = all.Findings
		}
		if i&2 > 0 {
			r.Fetch = all.Fetch
		}
		if i&4 > 0 {
			r.Dropped = all.Dropped
		}
		l = append(l, r)
	}
	return append(l, full(1), full(2), full(5), api.Report{Status: 2, Findings: pairs(1, 0, 2, 0, 2, 1, 19, 1023), Fetch: []api.Digest{{1}, {2}}, Dropped: []int{0, 127}})
}

// The chapter's examples, and others worked by hand.
func TestGetByHand(t *testing.T) {
	for _, c := range []struct {
		b    []byte
		want api.Report
	}{
		{raw(cleanBytes), api.Report{Status: api.Clean}},
		{raw(repairedBytes), api.Report{Status: api.Repaired, Findings: pairs(2, 0, 2, 1), Dropped: []int{5}}},
		{sums("415201 02 0000 0000 0000"), api.Report{Status: api.Repaired}},
		{sums("415201 01 0200 010000 13FF03 0000 0000"), api.Report{Status: api.Clean, Findings: pairs(1, 0, 19, 1023)}},
		{sums("415201 01 0200 04FF00 040001 0000 0000"), api.Report{Status: api.Clean, Findings: pairs(4, 255, 4, 256)}},
		{sums("415201 01 0000 0200" + zeros("") + zeros("01") + "0000"), api.Report{Status: api.Clean, Fetch: []api.Digest{{}, {1}}}},
		{sums("415201 01 0000 0000 0200 0000 7F00"), api.Report{Status: api.Clean, Dropped: []int{0, 127}}},
	} {
		if r, err := finding.Get(c.b); err != nil || !same(r, c.want) {
			t.Errorf("Get(% x): %v, %v, want %v", c.b, r, err, c.want)
		}
		checkGet(t, c.b)
	}
}

// Faults worked by hand: what is told, and where.
func TestGetFaults(t *testing.T) {
	for _, c := range []struct {
		b  []byte
		at int
		e  api.Errno
	}{
		{nil, 0, api.ErrShort},
		{[]byte{}, 0, api.ErrShort},
		{raw("415201"), 0, api.ErrShort},
		{raw("000000"), 0, api.ErrShort},  // the first four are one thing
		{raw("00000007"), 0, api.ErrForm}, // ahead of the status
		{raw("41520107"), 3, api.ErrArg},  // ahead of what is missing
		{raw("41520100"), 3, api.ErrArg},
		{raw("41520103"), 3, api.ErrArg},
		{raw("41520107 0000 0000 0000 32668BA4"), 3, api.ErrArg},
		{raw("41520101 0000 0000 0000 32668BA5"), 10, api.ErrSum},
		{append(raw(cleanBytes), 0), 14, api.ErrRest},
		{raw("41520101"), 4, api.ErrShort},
		{raw("41520101 FF"), 4, api.ErrShort},
		{raw("41520101 0100"), 6, api.ErrShort},
		{raw("41520101 0100 00"), 6, api.ErrRange},      // a kind, ahead of its At that is missing
		{raw("41520101 0100 14 FFFF"), 6, api.ErrRange}, // a kind, ahead of its At
		{raw("41520101 0100 02"), 7, api.ErrShort},
		{raw("41520101 0100 02 FF"), 7, api.ErrShort},
		{raw("41520101 0100 02 0004"), 7, api.ErrRange},
		{raw("41520101 0100 02 FFFF"), 7, api.ErrRange},
		{raw("41520101 0200 020100 02"), 10, api.ErrShort},      // all of it is read ahead of its order
		{raw("41520101 0200 020100 01 00"), 10, api.ErrShort},   // likewise
		{raw("41520101 0200 020100 01 0004"), 10, api.ErrRange}, // within its range, ahead of its order
		{raw("41520101 0200 020100 00 0000"), 9, api.ErrRange},
		{raw("41520101 0200 020100 020100"), 9, api.ErrForm},
		{raw("41520101 0200 020100 020000"), 9, api.ErrForm},
		{raw("41520101 0200 020100 01FF03"), 9, api.ErrForm},
		{raw("41520101 0300 010000 020100 020100"), 12, api.ErrForm},
		{raw("41520101 0000"), 6, api.ErrShort},
		{raw("41520101 0000 01"), 6, api.ErrShort},
		{raw("41520101 0000 0100"), 8, api.ErrShort},
		{raw("41520101 0000 0100" + zeros("FF"))[:39], 8, api.ErrShort},
		{raw("41520101 0000 0200" + zeros("FF") + zeros(""))[:71], 40, api.ErrShort}, // all of it is read ahead of its order
		{raw("41520101 0000 0200" + zeros("FF") + zeros("")), 40, api.ErrForm},
		{raw("41520101 0000 0200" + zeros("FF") + zeros("FF")), 40, api.ErrForm},
		{raw("41520101 0000 0000"), 8, api.ErrShort},
		{raw("41520101 0000 0000 01"), 8, api.ErrShort},
		{raw("41520101 0000 0000 0000"), 10, api.ErrShort},
		{raw("41520101 0000 0000 0000 32668B"), 10, api.ErrShort},
		{raw("41520101 0000 0000 0100"), 10, api.ErrShort},
		{raw("41520101 0000 0000 0100 80"), 10, api.ErrShort}, // a number is one thing
		{raw("41520101 0000 0000 0100 8000"), 10, api.ErrRange},
		{raw("41520101 0000 0000 0100 0001"), 10, api.ErrRange}, // 256, the lowest byte first
		{raw("41520101 0000 0000 0200 0500 0500"), 12, api.ErrForm},
		{raw("41520101 0000 0000 0200 0500 0400"), 12, api.ErrForm},
		{raw("41520101 0000 0000 0200 0500 0001"), 12, api.ErrRange},
		{raw("41520101 0000 0000 0200 0500 04"), 12, api.ErrShort},
		{sums("41520101 0000 0000 0000 00"), 10, api.ErrSum}, // the sum stands at 10, or it is another
		{append(raw("41520101 0000 0000 0000 32668BA5"), 0), 10, api.ErrSum},
	} {
		r, err := finding.Get(c.b)
		if !same(r, api.Report{}) {
			t.Errorf("Get(% x): %v", c.b, r)
		}
		checkFault(t, c.b, err, finding.Fault{At: c.at, Err: c.e})
		checkGet(t, c.b)
	}
}

// things is where each thing of a report's bytes begins, and behind these where the bytes end.
func things(r api.Report) []int {
	sizes := []int{4, 2}
	for range r.Findings {
		sizes = append(sizes, 1, 2)
	}
	sizes = append(sizes, 2)
	for range r.Fetch {
		sizes = append(sizes, 32)
	}
	sizes = append(sizes, 2)
	for range r.Dropped {
		sizes = append(sizes, 2)
	}
	places := []int{0}
	for _, n := range append(sizes, 4) {
		places = append(places, places[len(places)-1]+n)
	}
	return places
}

// P22.3, P22.4: of each proper beginning of a report's bytes: ErrShort, at the thing of which bytes are missing.
func TestGetBeginnings(t *testing.T) {
	for _, r := range samples() {
		b, _ := checkPut(t, r)
		places := things(r)
		if places[len(places)-1] != len(b) {
			t.Fatalf("Put(%v): %d bytes, want %d", r, len(b), places[len(places)-1])
		}
		for i, from := range places[:len(places)-1] {
			for n := from; n < places[i+1]; n++ {
				got, err := finding.Get(b[:n:n])
				if !same(got, api.Report{}) {
					t.Fatalf("Get(% x): %v", b[:n], got)
				}
				checkFault(t, b[:n], err, finding.Fault{At: from, Err: api.ErrShort})
				// What lies behind the end of the list isn't looked at.
				if again, err := finding.Get(b[:n]); err == nil || !same(again, got) {
					t.Fatalf("Get(% x) with room behind it: %v, %v", b[:n], again, err)
				}
			}
		}
	}
}

// P22.3: each value of each of the first four bytes, with the sum as it was and with the right one.
func TestGetFirstFour(t *testing.T) {
	for _, r := range samples() {
		b, _ := checkPut(t, r)
		for i := range 4 {
			for v := range 256 {
				changed := slices.Clone(b)
				changed[i] = byte(v)
				want := &finding.Fault{At: 0, Err: api.ErrForm}
				if i == 3 {
					want = &finding.Fault{At: 3, Err: api.ErrArg}
				}
				if v == int(b[i]) || i == 3 && (v == 1 || v == 2) {
					want = nil
				}
				changed = sealed(changed[:len(b)-4])
				_, fault := checkGet(t, changed)
				if (fault == nil) != (want == nil) || want != nil && *fault != *want {
					t.Fatalf("byte %d is %02x: %v, want %v", i, v, fault, want)
				}
				copy(changed[len(b)-4:], b[len(b)-4:])
				checkGet(t, changed)
			}
		}
	}
}

// P22.3: each byte of a report made each other one, with the sum as it was and with the right one.
func TestGetEachByte(t *testing.T) {
	for _, r := range samples() {
		b, _ := checkPut(t, r)
		body := len(b) - 4
		for i := range b {
			for v := range 256 {
				changed := slices.Clone(b)
				changed[i] = byte(v)
				_, fault := checkGet(t, changed)
				if (fault == nil) != (v == int(b[i])) {
					t.Fatalf("% x with byte %d as %02x: %v", b, i, v, fault)
				}
				if i >= body && v != int(b[i]) && *fault != (finding.Fault{At: body, Err: api.ErrSum}) {
					t.Fatalf("% x with byte %d of the sum as %02x: %v", b, i-body, v, fault)
				}
				if i < body {
					checkGet(t, sealed(changed[:body]))
				}
			}
		}
	}
}

// P22.3: the ranges of kinds, Ats and slots, number by number.
func TestGetRanges(t *testing.T) {
	for v := range 1 << 16 {
		low := []byte{byte(v), byte(v >> 8)}
		wantAt, wantSlot := finding.Fault{}, finding.Fault{}
		if v > 1023 {
			wantAt = finding.Fault{At: 7, Err: api.ErrRange}
		}
		if v > 127 {
			wantSlot = finding.Fault{At: 10, Err: api.ErrRange}
		}
		askFault(t, sealed(slices.Concat(raw("41520101 0100 07"), low, raw("0000 0000"))), wantAt)
		askFault(t, sealed(append(raw("41520101 0000 0000 0100"), low...)), wantSlot)
	}
	for v := range 256 {
		want := finding.Fault{}
		if v < 1 || v > 19 {
			want = finding.Fault{At: 6, Err: api.ErrRange}
		}
		askFault(t, sealed(slices.Concat(raw("41520101 0100"), []byte{byte(v)}, raw("0100 0000 0000"))), want)
		// The At is beyond its range too: the kind goes first.
		if want == (finding.Fault{}) {
			want = finding.Fault{At: 7, Err: api.ErrRange}
		}
		askFault(t, sealed(slices.Concat(raw("41520101 0100"), []byte{byte(v)}, raw("FFFF 0000 0000"))), want)
	}
}

// askFault asks Get for a fault, or with the zero one for a report.
func askFault(t *testing.T, b []byte, want finding.Fault) {
	t.Helper()
	_, fault := checkGet(t, b)
	if fault == nil {
		fault = &finding.Fault{}
	}
	if *fault != want {
		t.Fatalf("Get(% x): %v, want %v", b, fault, want)
	}
}

// P22.3: two elements, each of some numbers, of which the second one may be beyond its range, not behind the first, or both.
func TestGetTwo(t *testing.T) {
	ats := []int{0, 1, 255, 256, 1023, 1024, 65535}
	kinds := []int{0, 1, 2, 19, 20, 255}
	for _, k := range kinds {
		for _, at := range ats {
			b := raw("41520102 0200 020100")
			b = binary.LittleEndian.AppendUint16(append(b, byte(k)), uint16(at))
			want := finding.Fault{}
			switch {
			case k < 1 || k > 19:
				want = finding.Fault{At: 9, Err: api.ErrRange}
			case at > 1023:
				want = finding.Fault{At: 10, Err: api.ErrRange}
			case k < 2 || k == 2 && at <= 1:
				want = finding.Fault{At: 9, Err: api.ErrForm}
			}
			askFault(t, sealed(append(b, 0, 0, 0, 0)), want)
		}
	}
	for slot := range 300 {
		want := finding.Fault{}
		switch {
		case slot > 127:
			want = finding.Fault{At: 12, Err: api.ErrRange}
		case slot <= 77:
			want = finding.Fault{At: 12, Err: api.ErrForm}
		}
		askFault(t, sealed(binary.LittleEndian.AppendUint16(raw("41520102 0000 0000 0200 4D00"), uint16(slot))), want)
	}
	for i := range 32 {
		first, second := api.Digest{}, api.Digest{}
		for v := range 5 {
			first[i], second[i] = 2, byte(v)
			want := finding.Fault{}
			if v <= 2 {
				want = finding.Fault{At: 40, Err: api.ErrForm}
			}
			askFault(t, sealed(slices.Concat(raw("41520102 0000 0200"), first[:], second[:], raw("0000"))), want)
		}
	}
}

// P22.3: bytes behind the sum: one, many, and such as make the whole a report's beginning.
func TestGetRest(t *testing.T) {
	for _, r := range samples() {
		b, _ := checkPut(t, r)
		want := finding.Fault{At: len(b), Err: api.ErrRest}
		for v := range 256 {
			askFault(t, append(slices.Clone(b), byte(v)), want)
		}
		for _, n := range []int{2, 3, 4, 5, 32, 64, 1000} {
			askFault(t, append(slices.Clone(b), make([]byte, n)...), want)
			askFault(t, append(slices.Clone(b), bytes.Repeat([]byte{0xFF}, n)...), want)
		}
		askFault(t, slices.Concat(b, b), want)
		askFault(t, sealed(b), want)
	}
}

// P22.3: numbers of elements that are greater than what follows: it is told where bytes are missing, however great the number is.
func TestGetNumbersTooGreat(t *testing.T) {
	for _, n := range []int{1, 2, 3, 255, 256, 65535} {
		low := []byte{byte(n), byte(n >> 8)}
		askFault(t, append(raw("41520101"), low...), finding.Fault{At: 6, Err: api.ErrShort})
		askFault(t, append(raw("41520101 0000"), low...), finding.Fault{At: 8, Err: api.ErrShort})
		askFault(t, append(raw("41520101 0000 0000"), low...), finding.Fault{At: 10, Err: api.ErrShort})
	}
	// Each number that stands there made greater: what follows is taken for elements, till something is wrong.
	for _, r := range samples() {
		b, _ := checkPut(t, r)
		for _, at := range []int{4, 6 + 3*len(r.Findings), 8 + 3*len(r.Findings) + 32*len(r.Fetch)} {
			was := int(b[at])
			for _, more := range []int{1, 2, 3, 100, 65535 - was} {
				changed := slices.Clone(b)
				binary.LittleEndian.PutUint16(changed[at:], uint16(was+more))
				if _, fault := checkGet(t, changed); fault == nil {
					t.Fatalf("Get(% x): no fault", changed)
				}
				checkGet(t, sealed(changed[:len(b)-4]))
			}
		}
	}
}

// P22.3, P22.4: lists of as many elements as may be, and as there can be.
func TestGetMany(t *testing.T) {
	r := api.Report{Status: 1, Findings: allFindings(), Fetch: digests(65535), Dropped: slots(128)}
	b, e := finding.Put(r)
	if e != api.OK {
		t.Fatal(e)
	}
	got, fault := checkGet(t, b)
	if fault != nil || !same(got, r) {
		t.Fatalf("%d findings, %d digests, %d slots: %v", len(got.Findings), len(got.Fetch), len(got.Dropped), fault)
	}
	last := len(b) - 4 - 2*128 - 2 - 32
	copy(b[last:last+32], b[last-32:last])
	askFault(t, b, finding.Fault{At: last, Err: api.ErrForm})
}

// The words of an error, what it wraps, and both of none (P22.5).
func TestFault(t *testing.T) {
	for _, c := range []struct {
		f     finding.Fault
		words string
	}{
		{finding.Fault{At: 0, Err: api.ErrShort}, "finding: at 0: error 10"},
		{finding.Fault{At: 3, Err: api.ErrArg}, "finding: at 3: error 1"},
		{finding.Fault{At: 10, Err: api.ErrForm}, "finding: at 10: error 11"},
		{finding.Fault{At: 1234567, Err: api.ErrSum}, "finding: at 1234567: error 12"},
		{finding.Fault{At: 99, Err: api.ErrRange}, "finding: at 99: error 13"},
		{finding.Fault{At: 14, Err: api.ErrRest}, "finding: at 14: error 14"},
		{finding.Fault{}, "finding: at 0: error 0"},
		{finding.Fault{At: -7, Err: -3}, "finding: at -7: error -3"},
	} {
		var err error = &c.f
		if err.Error() != c.words || c.f.Unwrap() != error(c.f.Err) {
			t.Errorf("%v: %q, %v, want %q", c.f, err.Error(), c.f.Unwrap(), c.words)
		}
		checkFault(t, nil, err, c.f)
	}
	var none *finding.Fault
	if none.Error() != "" || none.Unwrap() != nil {
		t.Errorf("a nil *Fault: %q, %v", none.Error(), none.Unwrap())
	}
}
