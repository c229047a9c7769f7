package json_test

import (
	"bytes"
	"fmt"
	"testing"

	"assay/api"
	"assay/json"
)

// rooms counts the places of all lists in a value, with the spare room behind them.
type rooms struct {
	vals map[*json.Value]int
	keys map[*string]int
}

func newRooms() rooms { return rooms{map[*json.Value]int{}, map[*string]int{}} }

func (m rooms) add(v json.Value) {
	switch x := v.(type) {
	case json.List:
		m.addAll(x)
	case json.Object:
		for i := range x.Keys[:cap(x.Keys)] {
			m.keys[&x.Keys[:cap(x.Keys)][i]]++
		}
		m.addAll(x.Vals)
	}
}

func (m rooms) addAll(l []json.Value) {
	for i := range l[:cap(l)] {
		m.vals[&l[:cap(l)][i]]++
	}
	for _, v := range l {
		m.add(v)
	}
}

// shared tells whether a place is two lists'.
func (m rooms) shared() bool {
	for _, n := range m.vals {
		if n > 1 {
			return true
		}
	}
	for _, n := range m.keys {
		if n > 1 {
			return true
		}
	}
	return false
}

// whole tells a value with the spare room behind its lists.
func whole(v json.Value) string {
	all := func(l []json.Value) string {
		s := fmt.Sprint(len(l), "/")
		for _, e := range l[:cap(l)] {
			s += whole(e) + ";"
		}
		return s
	}
	switch x := v.(type) {
	case json.List:
		return "[" + all(x) + "]"
	case json.Object:
		return fmt.Sprintf("{%d/%q %s}", len(x.Keys), x.Keys[:cap(x.Keys)], all(x.Vals))
	}
	return fmt.Sprintf("%#v", v)
}

// scribble writes into each list of a value, and behind it, as a caller may.
func scribble(v json.Value) {
	all := func(l []json.Value) {
		for _, e := range l {
			scribble(e)
		}
		for i := range l {
			l[i] = json.Str("#")
		}
		for range 3 {
			l = append(l, json.Str("#"))
		}
	}
	switch x := v.(type) {
	case json.List:
		all(x)
	case json.Object:
		all(x.Vals)
		for i := range x.Keys {
			x.Keys[i] = "#"
		}
		x.Keys = append(x.Keys, "#", "#")
	}
}

// texts is texts of values, with many lists.
func texts() []string {
	return []string{
		"[]", "{}", "[[],[],{},{}]", "[1,2,3,4,5]", `{"a":[],"b":{}}`, `{"b":[1,[2,[3]]],"a":{"x":[],"y":[null]},"c":"text"}`,
		`[{"a":1,"b":2,"c":3},{"a":1,"b":2,"c":3},[[[[[1,2,3],[4]]]]]]`, `"abc"`, "7", "null",
	}
}

// P15.5, P2: what Parse answers is new memory, each list its own, and what is handed in stays.
func TestParsesMemory(t *testing.T) {
	for _, s := range append(texts(), "", "[1,", `{"a":1,"a":2}`, "[[[[[[[", "1 2", "[x") {
		room := []byte(s + " ]]behind\"")
		kept := bytes.Clone(room)
		one, bad, place := json.Parse(room[:len(s)])
		two, _, _ := json.Parse(room[:len(s)])
		if !bytes.Equal(room, kept) {
			t.Fatalf("%q has become %q", kept, room)
		}
		m := newRooms()
		m.add(one)
		m.add(two)
		if m.shared() {
			t.Fatalf("%s: lists share room", s)
		}
		for i := range room {
			room[i] = '#'
		}
		want, _, _ := valueOf(s)
		if !same(one, want) || !same(two, want) {
			t.Fatalf("%s: has become %s, %s", s, tell(one), tell(two))
		}
		scribble(one)
		three, e, at := json.Parse(kept[:len(s)])
		if !same(two, want) || !same(three, want) || e != bad || at != place {
			t.Fatalf("%s the second time: %s, %s, %d at %d", s, tell(two), tell(three), e, at)
		}
	}
}

// roomy is a value whose lists have spare room that isn't empty; some of its lists are there twice.
func roomy() json.Value {
	keys := []string{"d", "b", "c", "a", "behind", "behind"}
	l := json.List{json.Num(1), json.Str("z"), json.List{}, json.Str("behind"), json.Num(-9)}
	inner := json.Object{Keys: keys[:2:4], Vals: []json.Value{l[:3], json.Null{}, json.Str("behind")}[:2]}
	return json.Object{Keys: keys[:4], Vals: []json.Value{l[:3], inner, inner, json.List{l[:2], l[:2], inner}, nil, 7}[:4]}
}

// P2, P15.5: Print and Field change nothing that is handed in, nor the room behind it, also beside errors.
func TestWhatIsHandedInStays(t *testing.T) {
	twin := json.Object{Keys: []string{"b", "a", "b", "0"}[:3], Vals: []json.Value{json.Num(3), json.Num(2), json.Num(1), nil}[:3]}
	for _, v := range []json.Value{
		roomy(), json.List{roomy(), roomy()}, twin, json.List{twin, json.Str("\xff")}, json.List{roomy(), nil}, nested(roomy(), 3, 5), json.Object{Keys: []string{"d", "c"}, Vals: []json.Value{roomy()}},
	} {
		before := whole(v)
		s, bad := json.Print(v)
		for _, key := range []string{"d", "b", "c", "a", "x"} {
			json.Field(v, key)
		}
		again, e := json.Print(v)
		if s != again || e != bad {
			t.Errorf("%q, %d, then %q, %d", s, bad, again, e)
		}
		if after := whole(v); after != before {
			t.Errorf("%s has become %s", before, after)
		}
	}
	if s, e := json.Print(roomy()); e != api.OK || s != textOf(roomy()) {
		t.Error(s, e)
	}
}

// P2: what Field answers shares no list with the object, and each of its lists is its own.
func TestFieldsMemory(t *testing.T) {
	for _, key := range []string{"d", "b", "c", "a"} {
		v := roomy()
		before := whole(v)
		x, ok := json.Field(v, key)
		y, _ := json.Field(v, key)
		want := fmt.Sprint(x)
		if !ok || fmt.Sprint(y) != want {
			t.Fatal(key, ok, x, y)
		}
		m := newRooms()
		m.add(x)
		m.add(y)
		if m.shared() {
			t.Errorf("%s: lists of the answers share room", key)
		}
		theirs := newRooms()
		theirs.add(v)
		for p := range m.vals {
			if theirs.vals[p] > 0 {
				t.Fatalf("%s: the answer shares values with the object", key)
			}
		}
		for p := range m.keys {
			if theirs.keys[p] > 0 {
				t.Fatalf("%s: the answer shares keys with the object", key)
			}
		}
		scribble(x)
		if fmt.Sprint(y) != want || whole(v) != before {
			t.Errorf("%s: an answer's change is seen", key)
		}
		scribble(v)
		if fmt.Sprint(y) != want {
			t.Errorf("%s: the object's change is seen", key)
		}
	}
}
