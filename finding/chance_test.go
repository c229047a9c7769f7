package finding_test

import (
	"encoding/binary"
	"math/rand"
	"slices"
	"testing"

	"assay/api"
	"assay/finding"
)

// reportByChance is a report in form, with up to so many elements in each list.
func reportByChance(r *rand.Rand, most int) api.Report {
	p := api.Report{Status: 1 + r.Intn(2)}
	for range r.Intn(most + 1) {
		p.Findings = append(p.Findings, api.Finding{Kind: 1 + r.Intn(19), At: r.Intn(1024)})
	}
	p.Findings = finding.Sort(p.Findings...)
	for range r.Intn(most + 1) {
		var d api.Digest
		// Some share their beginnings, so that later bytes tell them apart.
		r.Read(d[r.Intn(32):])
		p.Fetch = append(p.Fetch, d)
	}
	slices.SortFunc(p.Fetch, func(a, b api.Digest) int { return slices.Compare(a[:], b[:]) })
	p.Fetch = slices.Compact(p.Fetch)
	p.Dropped = r.Perm(128)[:r.Intn(min(most, 128)+1)]
	slices.Sort(p.Dropped)
	return p
}

// spoil makes one thing of a report another one.
func spoil(r *rand.Rand, p *api.Report) {
	odd := numbers()
	number := odd[r.Intn(len(odd))]
	switch r.Intn(6) {
	case 0:
		p.Status = number
	case 1:
		if n := len(p.Findings); n > 0 {
			p.Findings[r.Intn(n)].Kind = number
		}
	case 2:
		if n := len(p.Findings); n > 0 {
			p.Findings[r.Intn(n)].At = number
		}
	case 3:
		if n := len(p.Findings); n > 0 {
			p.Findings[r.Intn(n)] = p.Findings[r.Intn(n)]
		}
	case 4:
		if n := len(p.Fetch); n > 0 {
			p.Fetch[r.Intn(n)][r.Intn(32)] = byte(r.Intn(256))
		}
	case 5:
		if n := len(p.Dropped); n > 0 {
			p.Dropped[r.Intn(n)] = r.Intn(140) - 5
		}
	}
}

// P22.4: reports in form, there and back.
func TestReportsByChance(t *testing.T) {
	r := rand.New(rand.NewSource(3))
	for range 3000 {
		p := reportByChance(r, r.Intn(40))
		b, e := checkPut(t, p)
		if e != api.OK {
			t.Fatalf("Put(%v): %d", p, e)
		}
		checkGet(t, b)
		cut := r.Intn(len(b))
		if _, fault := checkGet(t, b[:cut]); fault == nil || fault.Err != api.ErrShort {
			t.Fatalf("Get of % x cut at %d: %v", b, cut, fault)
		}
	}
}

// P22.2: reports in which one thing or several are wrong.
func TestSpoiledReports(t *testing.T) {
	r := rand.New(rand.NewSource(4))
	told := map[api.Errno]int{}
	for range 30000 {
		p := reportByChance(r, 6)
		for range 1 + r.Intn(4) {
			spoil(r, &p)
		}
		_, e := checkPut(t, p)
		told[e]++
	}
	for _, e := range []api.Errno{api.OK, api.ErrArg, api.ErrRange, api.ErrForm} {
		if told[e] < 300 {
			t.Errorf("%d was told %d times alone", e, told[e])
		}
	}
}

// P22.3: a report's bytes with some changed, some left out, some put between, sealed anew or not.
func TestSpoiledBytes(t *testing.T) {
	r := rand.New(rand.NewSource(5))
	told := map[api.Errno]int{}
	for range 60000 {
		b, _ := finding.Put(reportByChance(r, 5))
		for range r.Intn(3) {
			b = spoilBytes(r, b)
		}
		if r.Intn(3) > 0 && len(b) >= 4 {
			b = sealed(b[:len(b)-4])
		}
		_, fault := checkGet(t, b)
		if fault == nil {
			fault = &finding.Fault{}
		}
		told[fault.Err]++
	}
	for _, e := range []api.Errno{api.OK, api.ErrShort, api.ErrForm, api.ErrArg, api.ErrRange, api.ErrSum, api.ErrRest} {
		if told[e] < 100 {
			t.Errorf("%d was told %d times alone", e, told[e])
		}
	}
}

// spoilBytes is bytes with one change.
func spoilBytes(r *rand.Rand, b []byte) []byte {
	if len(b) == 0 {
		return b
	}
	at := r.Intn(len(b))
	switch r.Intn(5) {
	case 0:
		b[at] = byte(r.Intn(256))
	case 1:
		b[at] = byte(r.Intn(3))
	case 2:
		b = slices.Delete(b, at, min(len(b), at+1+r.Intn(4)))
	case 3:
		b = slices.Insert(b, at, make([]byte, 1+r.Intn(4))...)
	case 4:
		b = append(b, byte(r.Intn(256)))
	}
	return b
}

// P22.3: any bytes by chance, of all values and of few, so that much of them is taken for a report; alone and behind a right beginning, sealed or not.
func TestBytesByChance(t *testing.T) {
	r := rand.New(rand.NewSource(6))
	beginnings := [][]byte{nil, raw("4152"), raw("415201"), raw("41520101"), raw("41520102 0000"), raw("41520101 0000 0000"), raw("41520102 0200 010000")}
	for range 100000 {
		b := make([]byte, r.Intn(80))
		r.Read(b)
		few := 1 + r.Intn(256)
		for i := range b {
			b[i] = byte(int(b[i]) % few)
		}
		b = append(slices.Clone(beginnings[r.Intn(len(beginnings))]), b...)
		if r.Intn(2) == 0 {
			b = sealed(b)
		}
		checkGet(t, b)
	}
}

// P22.3: all short bodies of few values behind each status, sealed: reports among them.
func TestAllShortBodies(t *testing.T) {
	reports := 0
	values := []byte{0, 1, 2}
	var fill func(b []byte, left int)
	fill = func(b []byte, left int) {
		if _, fault := checkGet(t, sealed(b)); fault == nil {
			reports++
		}
		checkGet(t, b)
		if left == 0 {
			return
		}
		for _, v := range values {
			fill(append(b, v), left-1)
		}
	}
	fill(raw("41520101"), 10)
	// Six bytes: no element. Eight: one of the slots 0 to 2. Nine: a finding of the kinds 1, 2 and the Ats 0 to 2, 256 to 258, 512 to 514. Ten: two of the slots.
	if want := 1 + 3 + 2*9 + 3; reports != want {
		t.Errorf("%d reports, want %d", reports, want)
	}
}

// P22.3: what a number of two bytes says is held against all that follows, for every number.
func TestEveryNumberOfElements(t *testing.T) {
	r := full(40)
	b, _ := finding.Put(r)
	for _, at := range []int{4, 6 + 3*40, 8 + 35*40} {
		for n := range 1 << 16 {
			changed := slices.Clone(b)
			binary.LittleEndian.PutUint16(changed[at:], uint16(n))
			_, err := finding.Get(changed)
			_, fault := getModel(changed)
			if (err == nil) != (fault == nil) || fault != nil && *err.(*finding.Fault) != *fault {
				t.Fatalf("number %d at %d: %v, want %v", n, at, err, fault)
			}
			if (err == nil) != (n == 40) {
				t.Fatalf("number %d at %d: %v", n, at, err)
			}
		}
	}
}
