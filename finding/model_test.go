package finding_test

import (
	"encoding/binary"
	"errors"
	"fmt"
	"hash/crc32"
	"slices"
	"strconv"
	"strings"
	"testing"

	"assay/api"
	"assay/finding"
)

// same: have two reports the same status and the same elements? (A list that is nil and an empty one are the same.)
func same(a, b api.Report) bool {
	return a.Status == b.Status && slices.Equal(a.Findings, b.Findings) && slices.Equal(a.Fetch, b.Fetch) && slices.Equal(a.Dropped, b.Dropped)
}

// copied is a report in other memory.
func copied(r api.Report) api.Report {
	return api.Report{Status: r.Status, Findings: slices.Clone(r.Findings), Fetch: slices.Clone(r.Fetch), Dropped: slices.Clone(r.Dropped)}
}

// sealed is bytes with their sum behind them, by the library's CRC-32.
func sealed(b []byte) []byte {
	return binary.LittleEndian.AppendUint32(slices.Clone(b), crc32.ChecksumIEEE(b))
}

// raw is bytes written in base sixteen, blanks aside.
func raw(text string) []byte {
	var b []byte
	text = strings.Join(strings.Fields(text), "")
	for i := 0; i < len(text); i += 2 {
		v, err := strconv.ParseUint(text[i:i+2], 16, 8)
		if err != nil {
			panic(err)
		}
		b = append(b, byte(v))
	}
	return b
}

// less is the order of findings: a second reading of the chapter's words.
func less(a, b api.Finding) bool { return a.Kind < b.Kind || a.Kind == b.Kind && a.At < b.At }

// ahead is the order of digests: at the first byte in which two differ, the lesser comes first.
func ahead(a, b api.Digest) bool {
	for i := range a {
		if a[i] != b[i] {
			return a[i] < b[i]
		}
	}
	return false
}

// putModel is a second reading of P22.2: the bytes or the error, by a list of all that is wrong, in the chapter's order.
func putModel(r api.Report) ([]byte, api.Errno) {
	var wrong []api.Errno
	ask := func(bad bool, e api.Errno) {
		if bad {
			wrong = append(wrong, e)
		}
	}
	ask(r.Status != 1 && r.Status != 2, api.ErrArg)
	ask(len(r.Findings) > 65535, api.ErrLong)
	ask(len(r.Fetch) > 65535, api.ErrLong)
	ask(len(r.Dropped) > 65535, api.ErrLong)
	b := []byte{0x41, 0x52, 0x01, byte(r.Status)}
	b = binary.LittleEndian.AppendUint16(b, uint16(len(r.Findings)))
	for i, f := range r.Findings {
		ask(f.Kind < 1 || f.Kind > 19, api.ErrRange)
		ask(f.At < 0 || f.At > 1023, api.ErrRange)
		ask(i > 0 && !less(r.Findings[max(i, 1)-1], f), api.ErrForm)
		b = binary.LittleEndian.AppendUint16(append(b, byte(f.Kind)), uint16(f.At))
	}
	b = binary.LittleEndian.AppendUint16(b, uint16(len(r.Fetch)))
	for i, d := range r.Fetch {
		ask(i > 0 && !ahead(r.Fetch[max(i, 1)-1], d), api.ErrForm)
		b = append(b, d[:]...)
	}
	b = binary.LittleEndian.AppendUint16(b, uint16(len(r.Dropped)))
	for i, slot := range r.Dropped {
		ask(slot < 0 || slot > 127, api.ErrRange)
		ask(i > 0 && r.Dropped[max(i, 1)-1] >= slot, api.ErrForm)
		b = binary.LittleEndian.AppendUint16(b, uint16(slot))
	}
	if len(wrong) > 0 {
		return nil, wrong[0]
	}
	return sealed(b), api.OK
}

// getModel is a second reading of P22.3: one thing behind the other, given up by a panic at the first that is wrong.
func getModel(b []byte) (r api.Report, fault *finding.Fault) {
	defer func() {
		if v := recover(); v != nil {
			r, fault = api.Report{}, v.(*finding.Fault)
		}
	}()
	at := 0
	must := func(right bool, place int, e api.Errno) {
		if !right {
			panic(&finding.Fault{At: place, Err: e})
		}
	}
	next := func(n int) []byte {
		must(len(b) >= at+n, at, api.ErrShort)
		at += n
		return b[at-n : at]
	}
	two := func() int { return int(binary.LittleEndian.Uint16(next(2))) }
	first := next(4)
	must(first[0] == 0x41 && first[1] == 0x52 && first[2] == 1, 0, api.ErrForm)
	must(first[3] == 1 || first[3] == 2, 3, api.ErrArg)
	r.Status = int(first[3])
	for n, k := two(), 0; k < n; k++ {
		p := at
		kind := int(next(1)[0])
		must(kind >= 1 && kind <= 19, p, api.ErrRange)
		where := two()
		must(where < 1024, p+1, api.ErrRange)
		f := api.Finding{Kind: kind, At: where}
		must(k == 0 || less(r.Findings[max(k, 1)-1], f), p, api.ErrForm)
		r.Findings = append(r.Findings, f)
	}
	for n, k := two(), 0; k < n; k++ {
		p := at
		d := api.Digest(next(32))
		must(k == 0 || ahead(r.Fetch[max(k, 1)-1], d), p, api.ErrForm)
		r.Fetch = append(r.Fetch, d)
	}
	for n, k := two(), 0; k < n; k++ {
		p := at
		slot := two()
		must(slot < 128, p, api.ErrRange)
		must(k == 0 || r.Dropped[max(k, 1)-1] < slot, p, api.ErrForm)
		r.Dropped = append(r.Dropped, slot)
	}
	p := at
	must(binary.LittleEndian.Uint32(next(4)) == crc32.ChecksumIEEE(b[:p]), p, api.ErrSum)
	must(at == len(b), at, api.ErrRest)
	return r, nil
}

// checkPut holds Put against the model, and what it answers against Get (P22.4).
func checkPut(t *testing.T, r api.Report) ([]byte, api.Errno) {
	t.Helper()
	b, e := finding.Put(r)
	want, wantE := putModel(r)
	if e != wantE || !slices.Equal(b, want) {
		t.Fatalf("Put(%v): % x, %d, want % x, %d", r, b, e, want, wantE)
	}
	if e != api.OK {
		if len(b) > 0 {
			t.Fatalf("Put(%v): % x beside %d", r, b, e)
		}
		return b, e
	}
	back, err := finding.Get(b)
	if err != nil || !same(back, r) {
		t.Fatalf("Get of Put(%v): %v, %v", r, back, err)
	}
	return b, e
}

// checkGet holds Get against the model, and what it answers against Put (P22.4); the fault is nil where there is none.
func checkGet(t *testing.T, b []byte) (api.Report, *finding.Fault) {
	t.Helper()
	r, err := finding.Get(b)
	want, fault := getModel(b)
	if !same(r, want) {
		t.Fatalf("Get(% x): %v, want %v", b, r, want)
	}
	if fault == nil {
		if err != nil {
			t.Fatalf("Get(% x): %v, want no error", b, err)
		}
		if again, e := finding.Put(r); e != api.OK || !slices.Equal(again, b) {
			t.Fatalf("Put of Get(% x): % x, %d", b, again, e)
		}
		return r, nil
	}
	checkFault(t, b, err, *fault)
	if r.Status != 0 || len(r.Findings)+len(r.Fetch)+len(r.Dropped) > 0 {
		t.Fatalf("Get(% x): %v beside %v", b, r, err)
	}
	return r, fault
}

// checkFault asks of an error all that Go may ask of it: it is a *Fault with that place and number.
func checkFault(t *testing.T, b []byte, err error, want finding.Fault) {
	t.Helper()
	f, is := err.(*finding.Fault)
	if !is || f == nil || *f != want {
		t.Fatalf("Get(% x): %v (%T), want %d at %d", b, err, err, want.Err, want.At)
	}
	var as *finding.Fault
	var number api.Errno
	if !errors.As(err, &as) || as != f || !errors.As(err, &number) || number != want.Err {
		t.Fatalf("Get(% x): errors.As: %v, %d", b, as, number)
	}
	for e := api.OK; e <= api.ErrLine; e++ {
		if errors.Is(err, e) != (e == want.Err) {
			t.Fatalf("Get(% x): %v: errors.Is of %d", b, err, e)
		}
	}
	if words := fmt.Sprintf("finding: at %d: error %d", want.At, int(want.Err)); err.Error() != words {
		t.Fatalf("Get(% x): %q, want %q", b, err.Error(), words)
	}
}
