package audit_test

import (
	"math/rand"
	"runtime"
	"slices"
	"sync"
	"testing"
	"time"

	"assay/api"
	"assay/audit"
	"assay/image"
)

// The tests that begin with TestWorkers are those that .ci/run gives to the race detector, too.

// P23.3: the answer is the same for each number of workers, many times, on as many of the machine's cores as there may be.
func TestWorkersAnswerAlike(t *testing.T) {
	defer runtime.GOMAXPROCS(runtime.GOMAXPROCS(0))
	r := rand.New(rand.NewSource(30))
	for _, d := range []*disk{wreck(t), zeros(t, 64), family(t, 481), byChance(t, r, 1024), byChance(t, r, 64)} {
		im := d.image()
		all := found(t, im, 1)
		for _, cores := range []int{1, 2, 3, 8} {
			runtime.GOMAXPROCS(cores)
			for range 10 {
				for workers := 1; workers <= 8; workers++ {
					if got := found(t, im, workers); !slices.Equal(got, all) {
						t.Fatalf("%d cores, %d workers: %v, want %v", cores, workers, got, all)
					}
					some := []int{19, 4, 1, 12, 4}
					if got := parts(t, im, workers, some...); !slices.Equal(got, only(all, some...)) {
						t.Fatalf("%d cores, %d workers: %v, want %v", cores, workers, got, only(all, some...))
					}
				}
			}
		}
	}
}

// P23.3: two images of one disk are answered alike.
func TestWorkersAnswerAgain(t *testing.T) {
	d := byChance(t, rand.New(rand.NewSource(31)), 512)
	want := found(t, d.image(), 1)
	for i := range 40 {
		if got := found(t, d.image(), 1+i%8); !slices.Equal(got, want) {
			t.Fatalf("%v, want %v", got, want)
		}
	}
}

// P23.3: many ask at once, of one image and of several, with any number of workers.
func TestWorkersOfManyAtOnce(t *testing.T) {
	r := rand.New(rand.NewSource(32))
	var images []*image.Image
	var want [][]api.Finding
	for _, d := range []*disk{wreck(t), zeros(t, 64), byChance(t, r, 1024), byChance(t, r, 481)} {
		images = append(images, d.image())
		want = append(want, found(t, d.image(), 1))
	}
	var wait sync.WaitGroup
	for asker := range 12 {
		wait.Go(func() {
			for i := range 24 {
				k := (asker + i) % len(images)
				got, e := audit.Findings(images[k], 1+(asker*5+i)%8)
				if e != api.OK || !slices.Equal(got, want[k]) {
					t.Errorf("%v, %d, want %v", got, e, want[k])
				}
				scribble(got, f(7, 7))
				got, e = audit.Parts(images[k], 1+i%8, 5, 17, 4)
				if e != api.OK || !slices.Equal(got, only(want[k], 4, 5, 17)) {
					t.Errorf("%v, %d, want %v", got, e, only(want[k], 4, 5, 17))
				}
				scribble(got, f(7, 7))
			}
		})
	}
	wait.Wait()
}

// P23.3: no goroutine is left when a call has answered, be it refused or not.
func TestWorkersAreGone(t *testing.T) {
	im, fine := wreck(t).image(), emptyStore(t, 64).image()
	before := runtime.NumGoroutine()
	for i := range 200 {
		workers := i % 10
		audit.Findings(im, workers)
		audit.Findings(nil, workers)
		audit.Parts(fine, workers, kinds()...)
		audit.Parts(im, workers)
		audit.Parts(im, workers, 99, 4)
		// One that has said that it is done is counted still, till the machine has taken it away: that takes no time that a stuck one wouldn't.
		left := runtime.NumGoroutine()
		for tries := 0; left > before && tries < 2000; tries++ {
			time.Sleep(time.Millisecond)
			left = runtime.NumGoroutine()
		}
		if left > before {
			t.Fatalf("%d workers: %d goroutines, and %d ahead of the calls", workers, left, before)
		}
	}
}
