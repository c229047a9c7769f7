package drive_test

import (
	"math"
	"math/rand"
	"runtime"
	"slices"
	"sync"
	"testing"
	"time"

	"assay/api"
	"assay/device"
	"assay/drive"
)

// The tests that begin with TestWorkers are those that .ci/run gives to the race detector, too.

// numbers is numbers of workers: below 1, each that there may be, above 8.
func numbers() []int {
	return []int{math.MinInt, -1000, -1, 0, 1, 2, 3, 4, 5, 6, 7, 8, 9, 10, 1000, math.MaxInt}
}

// P28.1, P28.3: the answer doesn't hang on how many work at once, and any number may be asked for.
func TestWorkersAnswerAlike(t *testing.T) {
	r := rand.New(rand.NewSource(30))
	disks := []*disk{zeros(t, 64), family(t, 64), wreck(t), full(t, 128), byChance(t, r, 481), byChance(t, r, 1024)}
	for i, d := range disks {
		if i > 3 {
			d.anyMark(r)
		}
		want := read(d.l)
		for _, workers := range numbers() {
			for range 3 {
				if got := audit(t, d.l, workers); !same(got, want.report()) {
					t.Fatalf("%d workers: Audit: %v, want %v", workers, got, want.report())
				}
			}
			dev := deviceOf(t, d.l)
			if got := run(t, dev, workers); !same(got, want.report()) {
				t.Fatalf("%d workers: Run: %v, want %v", workers, got, want.report())
			}
			if at := firstOther(dev.Durable(), want.ends(d.l)); at >= 0 {
				t.Fatalf("%d workers: Run ends with another sector at %d", workers, at)
			}
			checkActs(t, dev, want)
		}
	}
}

// P3, P5: many audits, and runs over devices of their own, at once.
func TestWorkersOfManyAtOnce(t *testing.T) {
	r := rand.New(rand.NewSource(31))
	var disks []*disk
	var want []*reading
	for _, d := range []*disk{zeros(t, 64), wreck(t), full(t, 64), byChance(t, r, 481)} {
		d.anyMark(r)
		disks = append(disks, d)
		want = append(want, read(d.l))
	}
	var wait sync.WaitGroup
	for asker := range 8 {
		wait.Go(func() {
			for i := range 8 {
				k := (asker + i) % len(disks)
				told, e := drive.Audit(disks[k].l, asker)
				if e != api.OK || !same(told, want[k].report()) {
					t.Errorf("Audit: %v, %d", told, e)
				}
				writes, e := drive.Left(disks[k].l)
				if e != api.OK || !slices.Equal(writes, want[k].left()) {
					t.Errorf("Left: %v, %d", sectorsAt(writes), e)
				}
				dev, _ := device.New(disks[k].l)
				told, e = drive.Run(dev, asker+i)
				if e != api.OK || !same(told, want[k].report()) || firstOther(dev.Durable(), want[k].ends(disks[k].l)) >= 0 {
					t.Errorf("Run: %v, %d", told, e)
				}
				scribbleAll(told, 7)
			}
		})
	}
	wait.Wait()
}

// P28.1, P28.3: no goroutine is left when a call has answered, be it refused, stopped or whole.
func TestWorkersAreGone(t *testing.T) {
	d := wreck(t)
	before := runtime.NumGoroutine()
	for i := range 60 {
		workers := i%12 - 1
		drive.Audit(d.l, workers)
		drive.Audit(d.l[:63], workers)
		drive.Left(d.l)
		drive.Run(nil, workers)
		dev := deviceOf(t, d.l)
		dev.Stop(i)
		drive.Run(dev, workers)
		drive.Run(dev, workers)
		// One that has said that it is done is counted still, till the machine has taken it away: that takes no time that a stuck one wouldn't.
		now := runtime.NumGoroutine()
		for tries := 0; now > before && tries < 2000; tries++ {
			time.Sleep(time.Millisecond)
			now = runtime.NumGoroutine()
		}
		if now > before {
			t.Fatalf("%d workers: %d goroutines, and %d ahead of the calls", workers, now, before)
		}
	}
}
