package drive_test

import (
	"cmp"
	"slices"

	"assay/api"
)

// findings is all that is wrong, in order.
func (r *reading) findings() []api.Finding {
	var l []api.Finding
	add := func(at int, kinds ...int) {
		for _, kind := range kinds {
			l = append(l, api.Finding{Kind: kind, At: at})
		}
	}
	if r.mark != empty {
		add(0, api.FJournal)
	}
	for at := range 2 {
		if r.d0[at] != superOf(r.n) {
			add(at, api.FSuper)
		}
	}
	r.wrongBits(add)
	r.wrongCounts(add)
	for at, x := range r.held {
		add(at, x.wrong...)
	}
	for at, x := range r.pins {
		add(at, x.wrong...)
	}
	for at, x := range r.shots {
		add(at, x.wrong...)
	}
	slices.SortFunc(l, func(a, b api.Finding) int { return cmp.Or(a.Kind-b.Kind, a.At-b.At) })
	return l
}

// wrongBits adds what is wrong with the bitmap.
func (r *reading) wrongBits(add func(at int, kinds ...int)) {
	taken := r.taken()
	for i := range r.dir - r.bitmap {
		bits, right := r.bits(r.d0[r.bitmap+i], i)
		if !right {
			add(i, api.FBitmap)
			continue
		}
		for k, bit := range bits {
			if bit != taken[480*i+k] {
				add(480*i+k, api.FBit)
			}
		}
	}
}

// wrongCounts adds what is wrong with the counts.
func (r *reading) wrongCounts(add func(at int, kinds ...int)) {
	for i := range r.data - r.count {
		counts, right := r.counts(r.d0[r.count+i], i)
		if !right {
			add(i, api.FCounts)
			continue
		}
		for k, v := range counts {
			if v != r.held[15*i+k].degree {
				add(15*i+k, api.FCount)
			}
		}
	}
}

// will is the disk as it will be: D0 with the head as the store will be, the journal's sectors as they are in D0.
func (r *reading) will() []api.Sector {
	l := slices.Clone(r.d0)
	l[0], l[1], l[2] = superOf(r.n), superOf(r.n), api.Sector{}
	copy(l[r.bitmap:], bitmapOf(r.taken()))
	clear(l[r.dir:r.count])
	for i, x := range r.held {
		if x.kept {
			x.entry.State = api.Quarantined
		}
		if x.kept || x.good {
			l[r.dir+i] = entryOf(x.entry)
		}
	}
	for i, x := range r.pins {
		if x.counts {
			l[r.tag+i] = tagOf(x.tag)
		}
	}
	for i, x := range r.shots {
		if x.counts {
			l[r.snap+i] = snapOf(api.Snap{ID: x.snap.ID, Parent: x.parent, Layer: x.snap.Layer})
		}
	}
	copy(l[r.count:], countsOf(r.degrees()))
	return l
}

// left is what is left to be written.
func (r *reading) left() []api.Write {
	var l []api.Write
	for at, s := range r.will()[:r.data] {
		if (at < 2 || at > 10) && s != r.d0[at] {
			l = append(l, api.Write{At: at, Data: s})
		}
	}
	return l
}

// plan is what is to be got again.
func (r *reading) plan() []api.Digest {
	reached := make([]bool, r.slots)
	for i := range r.tags {
		if tag, right := tagIn(r.d0[r.tag+i]); right && r.find(tag.Key) >= 0 {
			reached[r.find(tag.Key)] = true
		}
	}
	for more := true; more; {
		more = false
		for i, x := range r.held {
			for _, d := range x.names {
				if at := r.meets(d); reached[i] && at >= 0 && !reached[at] {
					reached[at], more = true, true
				}
			}
		}
	}
	var l []api.Digest
	for i, x := range r.held {
		for _, d := range x.names {
			if reached[i] && r.find(d.Key) < 0 {
				l = append(l, d.Key)
			}
		}
	}
	slices.SortFunc(l, func(a, b api.Digest) int { return slices.Compare(a[:], b[:]) })
	return slices.Compact(l)
}

// report is what a whole run tells.
func (r *reading) report() api.Report {
	told := api.Report{Status: api.Clean, Findings: r.findings(), Fetch: r.plan()}
	for i, x := range r.held {
		if slices.Contains(x.wrong, api.FCrowd) {
			told.Dropped = append(told.Dropped, i)
		}
	}
	if len(told.Findings) > 0 {
		told.Status = api.Repaired
	}
	return told
}

// act is a write or a flush.
type act struct {
	flush bool
	write api.Write
}

// acts is the writes and flushes of a whole run, in order.
func (r *reading) acts() []act {
	var l []act
	write := func(writes ...api.Write) {
		for _, w := range writes {
			l = append(l, act{write: w})
		}
		l = append(l, act{flush: true})
	}
	switch r.mark {
	case committed:
		write(r.batch...)
		write(api.Write{At: 2})
	case rubbish:
		write(api.Write{At: 2})
	}
	for batch := range slices.Chunk(r.left(), 8) {
		var journal []api.Write
		for i, w := range batch {
			journal = append(journal, api.Write{At: 3 + i, Data: w.Data})
		}
		write(journal...)
		write(api.Write{At: 2, Data: markOf(batch)})
		write(batch...)
		write(api.Write{At: 2})
	}
	return l
}

// ends is the disk behind a whole run, its journal's sectors too: all acts are done.
func (r *reading) ends(l []api.Sector) []api.Sector {
	l = slices.Clone(l)
	for _, a := range r.acts() {
		if !a.flush {
			l[a.write.At] = a.write.Data
		}
	}
	return l
}
