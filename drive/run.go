package drive

import (
	"assay/api"
	"assay/batch"
	"assay/device"
	"assay/image"
	"assay/journal"
)

// emptyMark is what an image tells of a mark that is empty: a number of chapter 9.
const emptyMark = 1

// run is a run on its way.
type run struct {
	device  *device.Device
	workers int

	sectors []api.Sector // as they were read
	image   *image.Image // of these
	report  api.Report   // of these: told only if the run comes to its end
}

// all takes the steps of a run, up to the first that fails.
func (r *run) all() api.Errno {
	// The mark is put right ahead of all batches: these write over the journal's sectors, which a mark that isn't empty may hang on.
	for _, step := range []func() api.Errno{r.read, r.judge, r.replay, r.repair} {
		if e := step(); e != api.OK {
			return e
		}
	}
	return api.OK
}

// read reads all sectors.
func (r *run) read() api.Errno {
	for at := range r.device.N() {
		s, e := r.device.Read(at)
		if e != api.OK {
			return e
		}
		r.sectors = append(r.sectors, s)
	}
	return api.OK
}

// judge makes the report.
func (r *run) judge() (e api.Errno) {
	if r.image, e = image.Of(r.sectors); e != api.OK {
		return e
	}
	r.report, e = judged(r.image, r.workers)
	return e
}

// replay does the batch that an earlier run left in the journal, if there is one, and has the mark empty.
func (r *run) replay() api.Errno {
	if r.image.Mark() == emptyMark {
		return api.OK
	}
	_, e := journal.Replay(r.device)
	return e
}

// repair writes what is left. The sectors that were read tell it, since they are judged behind their replay.
func (r *run) repair() api.Errno {
	writes, e := Left(r.sectors)
	if e != api.OK {
		return e
	}
	for _, b := range batch.Cut(writes) {
		if e := journal.Do(r.device, b); e != api.OK {
			return e
		}
	}
	return api.OK
}
