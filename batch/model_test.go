package batch_test

import "assay/api"

// counted is the writes that count, rising: the chapter's words without a sort. Each one that no later one at its sector follows is laid at its place.
func counted(l []api.Write) []api.Write {
	var rising []api.Write
	for i, w := range l {
		if standsIn(l[i+1:], w.At) {
			continue
		}
		rising = append(rising, w)
		for k := len(rising) - 1; k > 0 && rising[k-1].At > rising[k].At; k-- {
			rising[k-1], rising[k] = rising[k], rising[k-1]
		}
	}
	return rising
}

// standsIn tells whether a list has a write at a sector.
func standsIn(l []api.Write, at int) bool {
	for _, w := range l {
		if w.At == at {
			return true
		}
	}
	return false
}

// cutOf is the batches of some writes: write i of those that count is of batch i / 8.
func cutOf(l []api.Write) [][]api.Write {
	rising := counted(l)
	batches := make([][]api.Write, (len(rising)+7)/8)
	for i, w := range rising {
		batches[i/8] = append(batches[i/8], w)
	}
	return batches
}

// leftOf is the writes that are left.
func leftOf(l []api.Write, done [][]api.Write) []api.Write {
	var left []api.Write
	for _, w := range counted(l) {
		was := false
		for _, d := range done {
			was = was || standsIn(d, w.At)
		}
		if !was {
			left = append(left, w)
		}
	}
	return left
}
