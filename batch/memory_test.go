package batch_test

import (
	"math/rand"
	"slices"
	"testing"

	"assay/api"
	"assay/batch"
)

// scribble writes into a list and its spare room, and appends to it more than once, as a caller may.
func scribble[T any](l []T, v T) {
	room := l[:cap(l)]
	for i := range room {
		room[i] = v
	}
	for range 3 {
		l = append(l, v)
	}
}

// roomy is a list with room ahead of it and behind it, in which writes stand already, and all of that room.
func roomy(r *rand.Rand, l []api.Write) (part, whole []api.Write) {
	whole = writes(shuffled(r, from(-50, len(l)+20))...)
	part = whole[10 : 10+len(l)]
	copy(part, l)
	return part, whole
}

// mixed is n writes in any order, a third of them at sectors that another one has too.
func mixed(r *rand.Rand, n int) []api.Write {
	return writes(shuffled(r, append(from(0, n-n/3), from(0, n/3)...))...)
}

// P2: the writes that are handed in stay as they were, and so does the room behind them.
func TestWhatIsHandedInStays(t *testing.T) {
	r := rand.New(rand.NewSource(30))
	for _, n := range []int{0, 1, 7, 8, 9, 16, 17, 60} {
		l, whole := roomy(r, mixed(r, n))
		was := slices.Clone(whole)
		for range 2 {
			for _, b := range batch.Cut(l) {
				scribble(b, api.Write{At: -99})
			}
			scribble(batch.Left(l, nil), api.Write{At: -98})
			scribble(batch.Left(l, [][]api.Write{l[:n/2]}), api.Write{At: -97})
			if !slices.Equal(whole, was) {
				t.Fatalf("%d writes: the list has changed", n)
			}
		}
	}
}

// P2: what was done stays as it was, the lists in it too, and the room behind all of them.
func TestWhatWasDoneStays(t *testing.T) {
	r := rand.New(rand.NewSource(31))
	l := mixed(r, 40)
	for _, n := range []int{0, 1, 5, 8, 30} {
		outer := make([][]api.Write, 9)
		var wholes, were [][]api.Write
		for i := range outer {
			part, whole := roomy(r, mixed(r, n))
			outer[i] = part
			wholes, were = append(wholes, whole), append(were, slices.Clone(whole))
		}
		was := deep(outer)
		for k := range 7 {
			scribble(batch.Left(l, outer[1:1+k]), api.Write{At: -96})
			if !same(outer, was) || !same(wholes, were) {
				t.Fatalf("%d lists of %d writes: what was done has changed", k, n)
			}
		}
		for i, d := range outer {
			if n > 0 && &d[0] != &wholes[i][10] {
				t.Fatalf("list %d of done is another one", i)
			}
		}
	}
}

// P2: what the lists are later is not seen in an answer.
func TestWhatTheListsAreLaterIsNotSeen(t *testing.T) {
	r := rand.New(rand.NewSource(32))
	for _, n := range []int{1, 8, 9, 17, 60} {
		l := mixed(r, n)
		done := [][]api.Write{slices.Clone(l[:n/4]), writes(3, 4, 5)}
		batches, some, all := cut(t, l), left(t, l, done...), left(t, l)
		wantBatches, wantSome, wantAll := deep(batches), slices.Clone(some), slices.Clone(all)
		scribble(l, api.Write{At: -1, Data: data(1)})
		for _, d := range done {
			scribble(d, api.Write{At: -2})
		}
		scribble(done, nil)
		if !same(batches, wantBatches) || !slices.Equal(some, wantSome) || !slices.Equal(all, wantAll) {
			t.Fatalf("%d writes: what the lists became is seen", n)
		}
	}
}

// P2: rising writes that are just one batch, or of which none is done, come back as new memory too.
func TestNothingComesBackItself(t *testing.T) {
	for _, n := range []int{1, 3, 8, 9, 20} {
		l := writes(from(0, n)...)
		was := slices.Clone(l)
		batches := batch.Cut(l)
		again := batch.Cut(slices.Concat(batches...))
		for _, b := range batches {
			scribble(b, api.Write{At: -1})
		}
		scribble(batch.Left(l, nil), api.Write{At: -2})
		if !slices.Equal(l, was) || !slices.Equal(slices.Concat(again...), was) {
			t.Fatalf("%d writes: an answer is what was handed in", n)
		}
	}
}

// P2: what Left is told as done is no part of what it answers.
func TestLeftSharesNothingWithBatches(t *testing.T) {
	l := writes(from(0, 30)...)
	batches := batch.Cut(l)
	want := deep(batches)
	scribble(batch.Left(l, batches[:2]), api.Write{At: -1})
	scribble(batch.Left(l, batches), api.Write{At: -2})
	scribble(batch.Left(batches[3], batches[:3]), api.Write{At: -3})
	if !same(batches, want) {
		t.Errorf("%s, want %s", told(batches), told(want))
	}
}

// P26.4: each batch of two Cuts and each answer of two Lefts may be written over and grown, more than once: nothing else sees that.
func TestEachIsItsOwn(t *testing.T) {
	r := rand.New(rand.NewSource(33))
	for _, n := range []int{1, 7, 8, 9, 16, 17, 30, 100} {
		l := mixed(r, n)
		done := [][]api.Write{writes(1, 3), writes(2)}
		lists := slices.Concat(batch.Cut(l), batch.Cut(l))
		lists = append(lists, batch.Left(l, nil), batch.Left(l, nil), batch.Left(l, done), batch.Left(l, done))
		for k := range 3 {
			for i := range lists {
				others := deep(lists)
				v := api.Write{At: -1000*k - i, Data: data(i)}
				scribble(lists[i], v)
				for at := range others[i] {
					others[i][at] = v
				}
				if !same(lists, others) {
					t.Fatalf("%d writes: what is done to list %d is seen in another", n, i)
				}
			}
		}
		if !same(batch.Cut(l), cutOf(l)) || !slices.Equal(batch.Left(l, done), leftOf(l, done)) {
			t.Fatalf("%d writes: another answer behind that", n)
		}
	}
}

// P26.4: a batch that is put behind another one grows into nobody's, even if it is done by turns.
func TestGrownByTurns(t *testing.T) {
	for _, n := range []int{9, 17, 33} {
		batches := batch.Cut(writes(from(0, n)...))
		want := deep(batches)
		for k := range 20 {
			for i := range batches {
				batches[i] = append(batches[i], api.Write{At: 100*i + k})
				want[i] = append(slices.Clip(want[i]), api.Write{At: 100*i + k})
			}
		}
		if !same(batches, want) {
			t.Fatalf("%s, want %s", told(batches), told(want))
		}
	}
}

// P2: the list of batches may be written into and grown too.
func TestTheListOfBatches(t *testing.T) {
	l := writes(from(0, 40)...)
	one, two := batch.Cut(l), batch.Cut(l)
	scribble(one[:2], writes(7))
	if !same(two, cutOf(l)) || !same(batch.Cut(l), cutOf(l)) {
		t.Error("one list of batches sees another")
	}
}

// P3: the same writes answer the same, whatever was asked ahead of that, and whatever room is behind them.
func TestTheSameAgain(t *testing.T) {
	r := rand.New(rand.NewSource(34))
	l := mixed(r, 50)
	done := [][]api.Write{writes(shuffled(r, from(10, 20))...), writes(0, 39)}
	want, rest := cut(t, l), left(t, l, done...)
	for range 20 {
		part, _ := roomy(r, l)
		batch.Cut(mixed(r, 20))
		batch.Left(mixed(r, 20), deep(done)[:1])
		if !same(batch.Cut(part), want) || !slices.Equal(batch.Left(part, done), rest) {
			t.Fatal("another answer to the same")
		}
	}
}
