package script_test

import (
	"math"
	"slices"
	"testing"

	"assay/api"
	"assay/script"
)

// P30.2: the chapter's examples.
func TestTextExamples(t *testing.T) {
	tells(t, steps(restart()), "restart -\n", api.OK)
	tells(t, steps(restart(true, false)), "restart 10\n", api.OK)
	tells(t, steps(script.Step{Kind: 0}), "", api.ErrArg)
	tells(t, steps(run(-1)), "", api.ErrArg)
}

// P30.2: no steps, nil or not.
func TestTextOfNothing(t *testing.T) {
	tells(t, nil, "", api.OK)
	tells(t, steps(), "", api.OK)
	tells(t, make([]script.Step, 0, 2000), "", api.OK)
}

// P30.2: each kind, alone and with all others.
func TestTextOfEachKind(t *testing.T) {
	lines, l := sevenLines()
	all := ""
	for i, s := range l {
		tells(t, steps(s), lines[i], api.OK)
		for k, other := range l {
			tells(t, steps(s, other), lines[i]+lines[k], api.OK)
		}
		all += lines[i]
	}
	tells(t, l, all, api.OK)
	tells(t, steps(put(0, api.Sector{})), "put 0 "+times(128, "0")+"\n", api.OK)
	tells(t, steps(put(5, api.Sector{0: 0xaf, 1: 1, 2: 0x10, 63: 0xf0})), "put 5 af0110"+times(120, "0")+"f0\n", api.OK)
}

// P30.2: a Restart without truths, nil or not.
func TestTextWithoutTruths(t *testing.T) {
	for _, l := range [][]bool{nil, {}, make([]bool, 0, 5), make([]bool, 3)[:0]} {
		tells(t, steps(restart(l...)), "restart -\n", api.OK)
		tells(t, steps(script.Step{Kind: script.Restart, Last: l}), "restart -\n", api.OK)
	}
}

// P30.2: kinds that are none, whatever else the step has, and wherever it stands.
func TestNoKinds(t *testing.T) {
	for _, kind := range []int{0, -1, -2, -7, -8, 8, 9, 10, 255, 256, 257, 263, 1000, 1 << 16, 1<<32 + 1, math.MaxInt32, math.MinInt32, math.MaxInt, math.MinInt} {
		for _, s := range []script.Step{{Kind: kind}, {Kind: kind, N: 64}, {Kind: kind, Data: api.Sector{7}}, {Kind: kind, Last: []bool{true}}} {
			tells(t, steps(s), "", api.ErrArg)
			tells(t, steps(flush(), s), "", api.ErrArg)
			tells(t, steps(s, flush()), "", api.ErrArg)
			tells(t, both(slices.Repeat(steps(flush()), 1023), steps(s)), "", api.ErrArg)
		}
	}
}

// P30.2: an N that is no whole is wrong where its line tells one, and isn't looked at where it doesn't; as Data and Last aren't.
func TestTextNumbers(t *testing.T) {
	words := map[int]string{script.Disk: "disk ", script.Stop: "stop ", script.Run: "run ", script.Audit: "audit "}
	other := script.Step{Data: torn(), Last: []bool{true, false}}
	for kind := script.Disk; kind <= script.Restart; kind++ {
		for _, n := range []int{-1, -2, -64, -2147483648, math.MinInt, 2147483648, 2147483649, 4294967296, 4294967360, math.MaxInt, math.MaxInt - 1} {
			s := other
			s.Kind, s.N = kind, n
			switch kind {
			case script.Flush:
				tells(t, steps(s), "flush\n", api.OK)
			case script.Restart:
				tells(t, steps(s), "restart 10\n", api.OK)
			default:
				tells(t, steps(s), "", api.ErrArg)
				tells(t, steps(flush(), s, flush()), "", api.ErrArg)
			}
		}
		for n, text := range map[int]string{0: "0", 1: "1", 10: "10", 64: "64", 2147483646: "2147483646", 2147483647: "2147483647"} {
			s := other
			s.Kind, s.N = kind, n
			if word, ok := words[kind]; ok {
				tells(t, steps(s), word+text+"\n", api.OK)
			}
			if kind == script.Put {
				tells(t, steps(s), "put "+text+" 070707"+times(122, "0")+"\n", api.OK)
			}
		}
	}
}

// P30.2: just MaxLines steps, and one more, also where a step is wrong.
func TestTextMaxLines(t *testing.T) {
	most := slices.Repeat(steps(flush()), 1024)
	tells(t, most, times(1024, "flush\n"), api.OK)
	for _, more := range steps(flush(), script.Step{}, run(-1), script.Step{Kind: 8}) {
		tells(t, append(slices.Clone(most), more), "", api.ErrLong)
		tells(t, append(steps(more), most...), "", api.ErrLong)
	}
	tells(t, make([]script.Step, 1025), "", api.ErrLong)
	tells(t, make([]script.Step, 1024), "", api.ErrArg)
	tells(t, make([]script.Step, 100000), "", api.ErrLong)
}

// P30.2: a text of just MaxText bytes, and one more; a step that is wrong comes first, wherever it is.
func TestTextMaxText(t *testing.T) {
	ones := slices.Repeat([]bool{true}, 1<<17)
	most := restart(ones[:65527]...)
	tells(t, steps(most), "restart "+times(65527, "1")+"\n", api.OK)
	for _, n := range []int{65528, 65529, 65536, 65537, 1 << 17} {
		tells(t, steps(restart(ones[:n]...)), "", api.ErrLong)
	}
	tells(t, steps(most, flush()), "", api.ErrLong)
	tells(t, steps(flush(), most), "", api.ErrLong)
	line := len("put 1000 ") + 128 + 1
	n := 65536 / line
	spare := 65536 - n*line
	puts := slices.Repeat(steps(put(1000, api.Sector{})), n)
	tells(t, append(slices.Clone(puts), restart(ones[:spare-9]...)), times(n, "put 1000 "+times(128, "0")+"\n")+"restart "+times(spare-9, "1")+"\n", api.OK)
	tells(t, append(slices.Clone(puts), restart(ones[:spare-8]...)), "", api.ErrLong)
	tells(t, slices.Repeat(puts, 2), "", api.ErrLong)
	for _, wrong := range steps(script.Step{}, script.Step{Kind: 8}, run(-1), stop(1<<31), put(-1, torn())) {
		tells(t, steps(restart(ones...), wrong), "", api.ErrArg)
		tells(t, steps(wrong, restart(ones...)), "", api.ErrArg)
		tells(t, append(slices.Repeat(puts, 2), wrong), "", api.ErrArg)
	}
}

// P30.2, P1: lists of truths that are far longer than any text: it ends, and in little time.
func TestTextOfFarLists(t *testing.T) {
	far := make([]bool, 1<<24)
	tells(t, steps(restart(far...)), "", api.ErrLong)
	tells(t, slices.Repeat(steps(restart(far...)), 1024), "", api.ErrLong)
	tells(t, append(slices.Repeat(steps(restart(far...)), 1023), script.Step{}), "", api.ErrArg)
	tells(t, steps(script.Step{Kind: script.Flush, Last: far}), "flush\n", api.OK)
}
