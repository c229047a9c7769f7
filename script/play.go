package script

import (
	"strconv"
	"strings"

	"assay/api"
	"assay/device"
	"assay/drive"
)

// getBytes is how many of a digest's bytes are told.
const getBytes = 4

// player does steps.
type player struct {
	device *device.Device // of the last Disk that was taken; nil ahead of the first
}

// do does a step: its line.
func (p *player) do(s Step) string {
	// A step of a kind that is none ends as one without a device does, so that it need not be told apart here.
	if p.device == nil && s.Kind != Disk {
		return end(api.ErrArg)
	}
	switch s.Kind {
	case Disk:
		return end(p.disk(s.N))
	case Put:
		return end(p.device.Write(s.N, s.Data))
	case Flush:
		return end(p.device.Flush())
	case Run:
		return told(drive.Run(p.device, s.N))
	case Audit:
		return told(drive.Audit(p.device.Sectors(), s.N))
	case Stop:
		p.device.Stop(s.N)
	case Restart:
		p.device.Restart(s.Last...)
	default:
		return end(api.ErrArg)
	}
	return end(api.OK)
}

// disk takes a new device in place of the one that is there, unless it is refused.
func (p *player) disk(n int) api.Errno {
	// A number that is refused may be one of which no list can be made: the nearest one to it that can be is refused likewise.
	d, e := device.New(make([]api.Sector, min(max(n, 0), api.MaxSectors+1)))
	if e == api.OK {
		p.device = d
	}
	return e
}

// end is what a step's line begins with.
func end(e api.Errno) string {
	if e != api.OK {
		return "no" + blank + strconv.Itoa(int(e))
	}
	return "ok"
}

// told is the line of a run or an audit.
func told(r api.Report, e api.Errno) string {
	if e != api.OK {
		return end(e)
	}
	parts := []string{end(e), status(r.Status)}
	for _, f := range r.Findings {
		parts = append(parts, strconv.Itoa(f.Kind)+":"+strconv.Itoa(f.At))
	}
	for _, d := range r.Fetch {
		parts = append(parts, "get", sixteens(d[:getBytes]))
	}
	for _, slot := range r.Dropped {
		parts = append(parts, "drop", strconv.Itoa(slot))
	}
	return strings.Join(parts, blank)
}

// status is a status in a word.
func status(v int) string {
	if v == api.Clean {
		return "clean"
	}
	return "repaired"
}
