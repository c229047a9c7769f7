package drive_test

import (
	"slices"
	"strconv"
	"strings"
	"testing"

	"assay/api"
)

// wrongs is disks on which one thing is wrong, or some of one kind, by what that is.
func wrongs(t *testing.T) map[string]*disk {
	m := map[string]*disk{"zeros": zeros(t, 64), "an empty store": emptyStore(t, 64), "nothing": family(t, 64), "all kinds": wreck(t)}
	base := func(what string) *disk {
		m[what] = family(t, 64)
		return m[what]
	}
	base("a superblock").tear(0)
	d := base("both superblocks")
	d.l[0], d.l[1] = superOf(65), superOf(63)
	base("the bitmap").tear(11)
	base("bits").turn(0, 28, 29, 63)
	base("a slot").tear(13)
	base("slots").l[14] = api.Sector{1}
	d = base("over one another")
	d.entry(2, api.Quarantined, 29, 1, nowhere(2))
	d.lying(6, 29, 2)
	base("twice").lying(6, 29, 3)
	base("a wrong key").corrupt(6, "wrong")
	d = base("the quarantine is full")
	d.corrupt(2, "one")
	d.corrupt(6, "two")
	base("a tag").tear(20)
	base("a dangling tag").pin(0, "v1", nowhere(1))
	base("a name twice").pin(1, "v2", keyOf("abc"))
	base("a snapshot").tear(24)
	base("a layer").shot(1, 7, 0, nowhere(1))
	base("an id twice").shot(2, 7, 5, keyOf("abc"))
	base("a parent").shot(3, 9, 8, keyOf("abc"))
	base("a cycle").shot(1, 7, 5, keyOf("abc"))
	base("its own parent").shot(1, 7, 7, keyOf("abc"))
	base("counts").tear(28)
	base("a count").counted(1, 7)
	base("rubbish").l[2] = api.Sector{63: 1}
	base("committed").commit(api.Write{At: 20, Data: api.Sector{4}}, api.Write{At: 63, Data: api.Sector{5}})
	d = base("committed, and more")
	d.commit(api.Write{At: 0}, api.Write{At: 11}, api.Write{At: 12}, api.Write{At: 24}, api.Write{At: 28}, api.Write{At: 29})
	d.tear(1)
	d = base("committed, and all is well behind it")
	d.commit(api.Write{At: 12, Data: d.l[12]}, api.Write{At: 20, Data: d.l[20]})
	d.l[12], d.l[20] = api.Sector{1}, api.Sector{2}
	return m
}

// parsed is findings that are written as words: a kind and the places of its findings, and so on.
func parsed(t *testing.T, text string) []api.Finding {
	t.Helper()
	kinds := strings.Fields("FJournal FSuper FBitmap FBit FSlot FSame FOver FCorrupt FCrowd FTag FTagTwice FDangling FSnap FSnapID FLayer FParent FCycle FCounts FCount")
	var l []api.Finding
	kind := 0
	for _, word := range strings.Fields(strings.ReplaceAll(text, ",", "")) {
		if i := slices.Index(kinds, word); i >= 0 {
			kind = i + 1
			continue
		}
		at, err := strconv.Atoi(word)
		if err != nil || kind == 0 {
			t.Fatal(text, word)
		}
		l = append(l, f(kind, at))
	}
	return l
}

// P28.1, P28.2: what is told and what is left of these disks, said by hand.
func TestWrongs(t *testing.T) {
	want := map[string]struct {
		findings string
		fetch    int
		dropped  []int
		left     []int
	}{
		"a count":                              {"FCount 1", 0, nil, []int{28}},
		"a cycle":                              {"FCycle 0", 0, nil, []int{24}},
		"a dangling tag":                       {"FDangling 0", 0, nil, []int{20}},
		"a layer":                              {"FLayer 1, FParent 0 3", 0, nil, []int{24, 25, 27}},
		"a name twice":                         {"FTagTwice 2", 0, nil, []int{22}},
		"a parent":                             {"FParent 3", 0, nil, []int{27}},
		"a slot":                               {"FBit 30 31 32 33, FSlot 1, FDangling 0 3, FLayer 1, FParent 0 3, FCount 0 1", 1, nil, []int{11, 13, 20, 23, 24, 25, 27, 28}},
		"a snapshot":                           {"FSnap 0", 0, nil, []int{24}},
		"a superblock":                         {"FSuper 0", 0, nil, []int{0}},
		"a tag":                                {"FTag 0", 0, nil, []int{20}},
		"a wrong key":                          {"FBit 39, FCorrupt 6, FCrowd 7", 0, []int{7}, []int{11, 18, 19}},
		"all kinds":                            {"FSuper 1, FBit 3 90 127, FSlot 9, FSame 1, FOver 3 5, FCorrupt 4 10 12 14, FCrowd 13 14, FTag 3, FTagTwice 2, FDangling 0 4 5, FSnap 5, FSnapID 2, FLayer 4, FParent 3, FCycle 1 6, FCounts 1, FCount 0", 2, []int{13, 14}, []int{1, 11, 13, 15, 16, 17, 21, 22, 24, 25, 26, 28, 30, 31, 32, 33, 37, 38, 39, 40, 41, 42, 44, 45}},
		"an empty store":                       {"", 0, nil, nil},
		"an id twice":                          {"FSnapID 2", 0, nil, []int{26}},
		"bits":                                 {"FBit 0 28 29 63", 0, nil, []int{11}},
		"both superblocks":                     {"FSuper 0 1", 0, nil, []int{0, 1}},
		"committed":                            {"FJournal 0, FTag 0", 0, nil, []int{20}},
		"committed, and all is well behind it": {"FJournal 0", 0, nil, nil},
		"committed, and more":                  {"FJournal 0, FSuper 0 1, FBitmap 0, FDangling 0 2 3, FLayer 3, FCounts 0", 1, nil, []int{0, 1, 11, 20, 22, 23, 27, 28}},
		"counts":                               {"FCounts 0", 0, nil, []int{28}},
		"its own parent":                       {"FCycle 1", 0, nil, []int{25}},
		"nothing":                              {"", 0, nil, nil},
		"over one another":                     {"FOver 2 6", 0, nil, []int{14, 18}},
		"rubbish":                              {"FJournal 0", 0, nil, nil},
		"slots":                                {"FSlot 2", 0, nil, []int{14}},
		"the bitmap":                           {"FBitmap 0", 0, nil, []int{11}},
		"the quarantine is full":               {"FBit 39, FCorrupt 2 6, FCrowd 6 7", 0, []int{6, 7}, []int{11, 14, 18, 19}},
		"twice":                                {"FSame 6", 0, nil, []int{18}},
		"zeros":                                {"FSuper 0 1, FBitmap 0, FCounts 0", 0, nil, []int{0, 1, 11, 28}},
	}
	disks := wrongs(t)
	is(t, len(disks), len(want))
	for what, d := range disks {
		w := want[what]
		r := check(t, d.l)
		if !slices.Equal(r.Findings, parsed(t, w.findings)) || len(r.Fetch) != w.fetch || !slices.Equal(r.Dropped, w.dropped) {
			t.Errorf("%s: %v", what, r)
		}
		if at := sectorsAt(left(t, d.l)); !slices.Equal(at, w.left) {
			t.Errorf("%s: left are %v", what, at)
		}
	}
}
