package script

import (
	"strconv"
	"strings"

	"assay/api"
)

// What stands between a line's words, and at its end.
const (
	blank   = " "
	newline = "\n"
)

// none is the word that tells that there are no truths.
const none = "-"

// digits are the ten and six small ones of base sixteen, each at what it stands for.
const digits = "0123456789abcdef"

// A whole has so many bits.
const (
	wholeBits = 31
	maxWhole  = 1<<wholeBits - 1
)

// words is each kind's word, at the kind's number.
func words() []string {
	return []string{Disk: "disk", Put: "put", Flush: "flush", Stop: "stop", Run: "run", Audit: "audit", Restart: "restart"}
}

// kinds is each word's kind. Of all other words it has 0, which is no kind.
func kinds() map[string]int {
	known := map[string]int{}
	for i, word := range words()[Disk:] {
		known[word] = Disk + i
	}
	return known
}

// stepOf is the step that a line tells, if it is one of the table.
func stepOf(line string, known map[string]int) (Step, bool) {
	content, ended := strings.CutSuffix(line, newline)
	all := strings.Split(content, blank)
	s := Step{Kind: known[all[0]]}
	t := tail{words: all[1:]}
	switch s.Kind {
	case Put:
		s.Data = take(&t, sectorOf)
		fallthrough // without its digits it is a line with a number alone
	case Disk, Stop, Run, Audit:
		s.N = take(&t, wholeOf)
	case Restart:
		s.Last = take(&t, truthsOf)
	case Flush:
	default:
		return Step{}, false
	}
	if !ended || t.wrong || len(t.words) > 0 {
		return Step{}, false
	}
	return s, true
}

// isLine tells whether there is a line that tells a step.
func isLine(s Step) bool {
	switch s.Kind {
	case Disk, Put, Stop, Run, Audit:
		return s.N >= 0 && s.N <= maxWhole
	}
	return s.Kind == Flush || s.Kind == Restart
}

// lineOf is the line that tells a step, of which there is one; a line that is longer than any text may be is cut to one that is so still.
func lineOf(s Step) string {
	more := newline
	switch s.Kind {
	case Put:
		more = blank + sixteens(s.Data[:]) + more
		fallthrough // without its digits it is a line with a number alone
	case Disk, Stop, Run, Audit:
		more = blank + strconv.Itoa(s.N) + more
	case Restart:
		more = blank + truths(s.Last[:min(len(s.Last), api.MaxText)]) + more
	}
	return words()[s.Kind] + more
}

// tail is the words of a line that are not understood yet.
type tail struct {
	words []string
	wrong bool // one of those that were taken means nothing
}

// take takes the last word, for what it means. A word that isn't there is taken as one of no bytes, which means nothing anywhere.
func take[T any](t *tail, meaning func(word string) (T, bool)) T {
	word := ""
	if last := len(t.words) - 1; last >= 0 {
		word = t.words[last]
		t.words = t.words[:last]
	}
	meant, ok := meaning(word)
	if !ok {
		t.wrong = true
	}
	return meant
}

// wholeOf is the whole that a word tells.
func wholeOf(word string) (int, bool) {
	if len(word) > 1 && word[0] == '0' {
		return 0, false
	}
	// Of an unsigned number the library takes digits alone.
	n, err := strconv.ParseUint(word, 10, wholeBits)
	if err != nil {
		return 0, false
	}
	return int(n), true
}

// sectorOf is the sector that a word's digits tell.
func sectorOf(word string) (api.Sector, bool) {
	var s api.Sector
	if len(word) != 2*len(s) {
		return api.Sector{}, false
	}
	for i := range len(word) {
		v := strings.IndexByte(digits, word[i])
		if v < 0 {
			return api.Sector{}, false
		}
		s[i/2] = s[i/2]<<4 | byte(v)
	}
	return s, true
}

// truthsOf is the truths that a word tells.
func truthsOf(word string) ([]bool, bool) {
	if word == none {
		return nil, true
	}
	if word == "" {
		return nil, false
	}
	l := make([]bool, len(word))
	for i := range len(word) {
		if word[i] != '0' && word[i] != '1' {
			return nil, false
		}
		l[i] = word[i] == '1'
	}
	return l, true
}

// sixteens is bytes in base sixteen.
func sixteens(b []byte) string {
	var text []byte
	for _, v := range b {
		text = append(text, digits[v>>4], digits[v&15])
	}
	return string(text)
}

// truths is the word that tells truths.
func truths(l []bool) string {
	if len(l) == 0 {
		return none
	}
	var text []byte
	for _, is := range l {
		digit := byte('0')
		if is {
			digit = '1'
		}
		text = append(text, digit)
	}
	return string(text)
}
