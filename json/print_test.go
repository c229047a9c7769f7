package json_test

import (
	"errors"
	"math"
	"math/rand"
	"slices"
	"strconv"
	"strings"
	"testing"

	"assay/api"
	"assay/json"
	"assay/lex"
)

// printed holds what Print answers.
func printed(t *testing.T, v json.Value, want string, bad api.Errno) {
	t.Helper()
	if s, e := json.Print(v); s != want || e != bad {
		t.Fatalf("Print(%s): %.300q, %d, want %.300q, %d", tell(v), s, e, want, bad)
	}
}

// P15.2, P15.3
func TestTheExamplesOfPrintAndField(t *testing.T) {
	printed(t, json.List{json.Num(1), json.Str("a\n"), json.Object{}}, `[1,"a\n",{}]`, api.OK)
	for _, v := range []json.Value{nil, json.Num(-1), json.List{nil}, json.Object{Keys: []string{"a"}}} {
		printed(t, v, "", api.ErrForm)
	}
	two := object("a", json.Null{}, "a", json.Null{})
	printed(t, two, "", api.ErrTwice)
	if v, ok := json.Field(two, "a"); v != (json.Null{}) || !ok {
		t.Error(v, ok)
	}
	for _, v := range []json.Value{json.Null{}, json.Object{}} {
		if x, ok := json.Field(v, "a"); x != nil || ok {
			t.Error(x, ok)
		}
	}
}

// P15.2: the text of each kind, alone, in lists and in objects.
func TestThePrintedText(t *testing.T) {
	var noList json.List
	for _, c := range []struct {
		v    json.Value
		want string
	}{
		{json.Null{}, "null"}, {json.Bool(true), "true"}, {json.Bool(false), "false"},
		{json.Num(0), "0"}, {json.Num(7), "7"}, {json.Num(10), "10"}, {json.Num(math.MaxInt64), "9223372036854775807"},
		{json.Str(""), `""`}, {json.Str("a b"), `"a b"`}, {json.Str("</\"\\\x01>"), `"</\"\\\u0001>"`}, {json.Str("\u20ac\u2028\x7f"), "\"\u20ac\u2028\x7f\""},
		{json.List{}, "[]"}, {noList, "[]"}, {json.List{json.Null{}}, "[null]"}, {json.List{json.Num(1), json.Num(2), json.Num(3)}, "[1,2,3]"},
		{json.Object{}, "{}"}, {json.Object{Keys: []string{}, Vals: []json.Value{}}, "{}"}, {json.Object{Vals: []json.Value{}}, "{}"},
		{object("b", json.Num(1), "a", json.List{}, "", json.Object{}), `{"b":1,"a":[],"":{}}`}, {object("\"\n", json.Str("\t")), `{"\"\n":"\t"}`},
	} {
		printed(t, c.v, c.want, api.OK)
		printed(t, json.List{c.v, c.v}, "["+c.want+","+c.want+"]", api.OK)
		printed(t, object("k", c.v, "l", json.List{c.v}), `{"k":`+c.want+`,"l":[`+c.want+"]}", api.OK)
	}
	// Print has no bound of length.
	many := slices.Repeat(json.List{json.Str("ab")}, 100000)
	printed(t, many, "["+strings.Repeat(`"ab",`, 99999)+`"ab"]`, api.OK)
	text := strings.Repeat("\u20ac", 1<<18)
	printed(t, json.Str(text), `"`+text+`"`, api.OK)
}

type likeList json.List

type likeObject struct{ json.Object }

type likeNum json.Num

// foreign is values of none of the six kinds, nil among them.
func foreign() []json.Value {
	var noList *json.List
	var noError error
	v := json.Value(json.Null{})
	return []json.Value{
		nil, noError, noList, 7, -7, "a", true, 1.5, 'x', byte(1), int64(1), uint(1), complex(1, 1), struct{}{}, errors.New("a"), api.OK, api.ErrForm,
		[]json.Value{}, []json.Value{json.Null{}}, [1]json.Value{}, []string{"a"}, []byte("1"), map[string]json.Value{}, map[string]json.Value{"a": json.Null{}},
		&v, &json.Null{}, new(json.Bool), new(json.Num), new(json.Str), &json.List{}, &json.Object{}, (*json.Object)(nil), likeList{}, likeObject{}, likeNum(1),
		struct {
			Keys []string
			Vals []json.Value
		}{}, lex.Token{Kind: lex.Null}, func() {}, make(chan int), json.Print,
	}
}

// uneven is objects with more keys than values, and with fewer.
func uneven() []json.Value {
	var l []json.Value
	for k := range 4 {
		for v := range 4 {
			if k != v {
				l = append(l, json.Object{Keys: []string{"a", "b", "c"}[:k], Vals: []json.Value{json.Null{}, json.Num(1), json.List{}}[:v]})
			}
		}
	}
	return l
}

// stray is texts that are no UTF-8.
func stray() []string {
	return []string{"\xff", "\x80", "\xbf", "\xc0\x80", "\xc1\xbf", "\xc3", "\xe0\x80\x80", "\xe2\x82", "\xed\xa0\x80", "\xed\xbf\xbf", "\xf0\x80\x80\x80", "\xf4\x90\x80\x80", "\xf8\x88\x80\x80\x80", "a\xffb", "\ufffd\xff", "\u20ac\xe2\x82", "\"\xff"}
}

// twins is objects with a key that comes twice.
func twins() []json.Value {
	return []json.Value{
		object("a", json.Null{}, "a", json.Null{}),
		object("", json.Num(1), "", json.Num(2)),
		object("a", json.Num(1), "b", json.Num(2), "a", json.Num(3)),
		object("a", json.Num(1), "b", json.Num(2), "c", json.Num(3), "b", json.Num(4)),
		object("z", json.Num(1), "b", json.Num(2), "c", json.Num(3), "z", json.Num(4)),
		object("a", json.Num(1), "a", json.Num(1), "a", json.Num(1)),
		object("\u20ac", json.List{}, "x", json.Object{}, "\u20ac", json.List{}),
	}
}

// faults is values with one kind of fault each, by the error.
func faults() map[api.Errno][]json.Value {
	m := map[api.Errno][]json.Value{
		api.ErrForm:  append(append(foreign(), uneven()...), json.Num(-1), json.Num(-2147483648), json.Num(math.MinInt64)),
		api.ErrTwice: twins(),
	}
	for _, s := range stray() {
		m[api.ErrToken] = append(m[api.ErrToken], json.Str(s), object(s, json.Null{}), object("a", json.Null{}, s, json.Null{}), object(s, json.Null{}, "a", json.Null{}))
	}
	for bits := range 1 << 7 {
		m[api.ErrDeep] = append(m[api.ErrDeep], nested(json.Null{}, bits, 7))
	}
	m[api.ErrDeep] = append(m[api.ErrDeep], nested(json.List{}, 0, 6), nested(json.Object{}, 0, 6), nested(json.Num(1), 5, 20), nested(json.Num(1), 5, 1000))
	return m
}

// order is the chapter's order of Print's errors.
func order() []api.Errno {
	return []api.Errno{api.ErrForm, api.ErrToken, api.ErrTwice, api.ErrDeep}
}

// nested is a value within n lists and objects, by the bits of a number, with others ahead of it and behind it.
func nested(v json.Value, bits, n int) json.Value {
	for i := range n {
		switch {
		case bits>>i&1 == 0 && i%3 == 0:
			v = json.List{v}
		case bits>>i&1 == 0:
			v = json.List{json.Str("x"), v, json.Object{}}
		case i%3 == 0:
			v = object("a", v)
		default:
			v = object("x", json.List{}, "a", v, "y", json.Bool(true))
		}
	}
	return v
}

// P15.2: each fault alone, at every depth, in each mixture of lists and objects.
func TestEachFaultAtEveryDepth(t *testing.T) {
	for bad, l := range faults() {
		for _, v := range l {
			printed(t, v, "", bad)
			for n := 1; n <= 5; n++ {
				for bits := range 1 << n {
					printed(t, nested(v, bits, n), "", bad)
				}
			}
			for _, n := range []int{6, 7, 8, 20} {
				for _, bits := range []int{0, 1, 0x55, 0xFF} {
					printed(t, nested(v, bits, n), "", bad)
				}
			}
		}
	}
}

// P15.2: nested just to MaxDepth, and one more deeply, alone and beside others.
func TestPrintsNesting(t *testing.T) {
	for _, v := range []json.Value{json.Null{}, json.Bool(false), json.Num(0), json.Str("")} {
		for n := range 9 {
			for bits := range 1 << n {
				x := nested(v, bits, n)
				if n > 6 {
					printed(t, x, "", api.ErrDeep)
				} else {
					printed(t, x, textOf(x), api.OK)
				}
			}
		}
	}
	for _, v := range []json.Value{json.List{}, json.Object{}, json.List{json.Num(1)}, object("a", json.Null{})} {
		for n := range 9 {
			x := nested(v, 0x29, n)
			// The others beside v make these no deeper than v does.
			if n > 5 {
				printed(t, x, "", api.ErrDeep)
			} else {
				printed(t, x, textOf(x), api.OK)
			}
		}
	}
	six, seven := nested(json.Null{}, 0x2A, 6), nested(json.Null{}, 0x2A, 7)
	five := nested(json.Null{}, 0x2A, 5)
	printed(t, json.List{five, five, five}, textOf(json.List{five, five, five}), api.OK)
	for _, v := range []json.Value{json.List{six}, json.List{five, six}, json.List{six, five}, json.List{json.Null{}, seven, json.Null{}}, object("a", five, "b", six), object("a", six, "b", five)} {
		printed(t, v, "", api.ErrDeep)
	}
}

// P15.2: texts and keys that are no UTF-8, and those that are.
func TestTextsThatAreNone(t *testing.T) {
	for v := range 256 {
		c := string([]byte{byte(v)})
		for _, s := range []string{c, "a" + c, c + "a", "\u20ac" + c, c + "\u20ac"} {
			q, bad := lex.Quote(s)
			if (bad == api.OK) != (v < 0x80) {
				t.Fatalf("%x: %d", v, bad)
			}
			printed(t, json.Str(s), q, bad)
			whole := ""
			if bad == api.OK {
				whole = "{" + q + ":[" + q + "]}"
			}
			printed(t, object(s, json.List{json.Str(s)}), whole, bad)
		}
	}
}

// P15.2: of two faults, and of three, the first in the chapter's order, in whatever places.
func TestSeveralFaults(t *testing.T) {
	few := map[api.Errno][]json.Value{
		api.ErrForm:  {nil, 7, json.Num(-1), json.Object{Keys: []string{"a"}}, json.Object{Vals: []json.Value{json.Null{}}}, &json.List{}},
		api.ErrToken: {json.Str("\xff"), object("\xff", json.Null{}), object("a", json.Null{}, "\xed\xa0\x80", json.Num(1))},
		api.ErrTwice: {object("a", json.Null{}, "a", json.Null{}), object("a", json.Num(1), "b", json.Num(2), "a", json.Num(3))},
		api.ErrDeep:  {nested(json.Null{}, 0, 7), nested(json.Null{}, 0x7F, 7), nested(json.List{}, 3, 30)},
	}
	places := []func(a, b json.Value) json.Value{
		func(a, b json.Value) json.Value { return json.List{a, b} },
		func(a, b json.Value) json.Value { return json.List{json.List{a}, b} },
		func(a, b json.Value) json.Value { return json.List{a, json.Null{}, json.List{json.List{b}}} },
		func(a, b json.Value) json.Value { return object("x", a, "y", b) },
		func(a, b json.Value) json.Value { return object("x", json.List{json.Num(1), a}, "y", b) },
		func(a, b json.Value) json.Value { return json.List{nested(a, 5, 7), object("x", nested(b, 2, 2))} },
		func(a, b json.Value) json.Value { return json.List{object("x", a), nested(b, 5, 9)} },
	}
	for i, first := range order() {
		for _, second := range order()[i:] {
			for _, a := range few[first] {
				for _, b := range few[second] {
					for _, place := range places {
						printed(t, place(a, b), "", first)
						printed(t, place(b, a), "", first)
					}
					for _, third := range order()[i:] {
						for _, c := range few[third] {
							printed(t, json.List{c, b, a}, "", first)
							printed(t, object("x", b, "y", object("z", c, "w", a)), "", first)
						}
					}
				}
			}
		}
	}
}

// P15.2: one object with several faults of its own and in its values.
func TestSeveralFaultsOfOneObject(t *testing.T) {
	null := json.Null{}
	printed(t, json.Object{Keys: []string{"\xff", "\xff"}, Vals: []json.Value{null}}, "", api.ErrForm)
	printed(t, json.Object{Keys: []string{"a", "a"}, Vals: []json.Value{null}}, "", api.ErrForm)
	printed(t, json.Object{Keys: []string{"a"}, Vals: []json.Value{null, json.Str("\xff")}}, "", api.ErrForm)
	printed(t, object("\xff", null, "\xff", null), "", api.ErrToken)
	printed(t, object("a", null, "a", json.Str("\xff")), "", api.ErrToken)
	printed(t, object("a", null, "a", nil), "", api.ErrForm)
	printed(t, object("\xff", null, "a", json.Num(-1)), "", api.ErrForm)
	printed(t, object("a", null, "a", nested(null, 0, 7)), "", api.ErrTwice)
	printed(t, object("a", nested(object("b", null, "b", null), 0, 7)), "", api.ErrTwice)
	printed(t, object("a", nested(json.Str("\xff"), 0, 7), "a", null), "", api.ErrToken)
	printed(t, object("a", nested(json.Object{Keys: []string{"a"}}, 0, 7), "\xff", null), "", api.ErrForm)
}

// P15.2: a key is twice in one object alone, and by its bytes.
func TestKeysThatAreNotTwice(t *testing.T) {
	for _, v := range []json.Value{
		object("a", object("a", json.Null{})),
		json.List{object("a", json.Null{}), object("a", json.Null{})},
		object("x", object("a", json.Null{}), "y", object("a", json.Null{}), "a", json.Null{}),
		object("a", json.Str("a"), "A", json.Str("a"), "", json.Null{}, "a ", json.Null{}, "a\x00", json.Null{}),
		object("\u00e9", json.Null{}, "e\u0301", json.Null{}),
	} {
		printed(t, v, textOf(v), api.OK)
	}
	var o json.Object
	for i := range 200000 {
		o.Keys = append(o.Keys, strconv.Itoa(i*7919%200003))
		o.Vals = append(o.Vals, json.Num(i))
	}
	if s, e := json.Print(o); e != api.OK || s != textOf(o) {
		t.Fatal(len(s), e)
	}
	o.Keys[199999] = o.Keys[5]
	printed(t, o, "", api.ErrTwice)
}

// broken is a value by chance with faults in it, nested at most so deeply; it tells which, but for the depth, and how deeply it is nested.
func broken(r *rand.Rand, depth, odds int, seen map[api.Errno]bool) (json.Value, int) {
	if r.Intn(odds) == 0 {
		seen[api.ErrForm] = true
		l := append(foreign(), json.Num(-1-r.Intn(100)))
		return l[r.Intn(len(l))], 0
	}
	text := func() string {
		if r.Intn(odds) > 0 {
			return goodText(r)
		}
		seen[api.ErrToken] = true
		return stray()[r.Intn(len(stray()))]
	}
	kind := r.Intn(3)
	if depth == 0 {
		kind = 0
	}
	deepest := 0
	part := func() json.Value {
		v, n := broken(r, depth-1, odds, seen)
		deepest = max(deepest, n)
		return v
	}
	switch kind {
	case 0:
		return []json.Value{json.Null{}, json.Bool(true), json.Num(r.Int63()), json.Str(text())}[r.Intn(4)], 0
	case 1:
		var l json.List
		for range r.Intn(4) {
			l = append(l, part())
		}
		return l, 1 + deepest
	}
	var o json.Object
	for range r.Intn(4) {
		key := text()
		twice := slices.Contains(o.Keys, key)
		if twice && r.Intn(3) > 0 {
			continue
		}
		seen[api.ErrTwice] = seen[api.ErrTwice] || twice
		o.Keys = append(o.Keys, key)
		o.Vals = append(o.Vals, part())
	}
	if r.Intn(odds) == 0 {
		seen[api.ErrForm] = true
		o.Keys = append(o.Keys, "more")
	}
	return o, 1 + deepest
}

// P15.2, P15.4: any values, with faults by chance.
func TestValuesByChance(t *testing.T) {
	r := rand.New(rand.NewSource(3))
	count := map[api.Errno]int{}
	for range 100000 {
		seen := map[api.Errno]bool{}
		v, depth := broken(r, r.Intn(11), []int{3, 10, 40, 200, 1000}[r.Intn(5)], seen)
		// A text is made for a place that may take another kind: the value is asked whether it is in it.
		seen[api.ErrToken] = seen[api.ErrToken] && hasStray(v)
		seen[api.ErrDeep] = depth > 6
		want := api.OK
		for _, e := range slices.Backward(order()) {
			if seen[e] {
				want = e
			}
		}
		count[want]++
		text := ""
		if want == api.OK {
			text = textOf(v)
		}
		printed(t, v, text, want)
		if want == api.OK && len(text) <= 4096 {
			taken(t, text, v)
		}
	}
	for _, e := range append(order(), api.OK) {
		if count[e] < 500 {
			t.Errorf("only %d of %d", count[e], e)
		}
	}
}

// hasStray tells whether a text or a key in a value is no UTF-8.
func hasStray(v json.Value) bool {
	bad := func(s string) bool { return slices.Contains(stray(), s) }
	switch x := v.(type) {
	case json.Str:
		return bad(string(x))
	case json.List:
		return slices.ContainsFunc(x, hasStray)
	case json.Object:
		return slices.ContainsFunc(x.Keys, bad) || slices.ContainsFunc(x.Vals, hasStray)
	}
	return false
}

// P1, P15.2: as deep as the document's bound, with each fault innermost; and lists that hold themselves, which go beyond it: there it ends too.
func TestVeryDeep(t *testing.T) {
	for bad, l := range map[api.Errno]json.Value{api.ErrForm: nil, api.ErrToken: json.Str("\xff"), api.ErrTwice: twins()[0], api.ErrDeep: json.Null{}} {
		v := l
		for i := range 65535 {
			if i%2 == 0 {
				v = json.List{v}
			} else {
				v = object("a", v)
			}
		}
		printed(t, v, "", bad)
		x, ok := json.Field(v, "a")
		if o, is := v.(json.Object); ok != is || is && !same(x, o.Vals[0]) {
			t.Fatal(bad, ok, is)
		}
		x, ok = json.Field(object("b", v), "b")
		if !ok || !same(x, v) {
			t.Fatal(bad, ok)
		}
	}
	self := json.List{json.Null{}, nil, nil}
	self[1], self[2] = self, self
	printed(t, self, "", api.ErrDeep)
	round := json.Object{Keys: []string{"a"}, Vals: []json.Value{nil}}
	round.Vals[0] = json.List{round}
	printed(t, round, "", api.ErrDeep)
	json.Field(round, "a")
	json.Field(object("a", self), "a")
}

// got holds what Field answers; nil for nothing.
func got(t *testing.T, v json.Value, key string, want json.Value, there bool) {
	t.Helper()
	if x, ok := json.Field(v, key); ok != there || !same(x, want) {
		t.Fatalf("Field(%s, %q): %s, %t, want %s, %t", tell(v), key, tell(x), ok, tell(want), there)
	}
}

// P15.3
func TestField(t *testing.T) {
	inner := []json.Value{json.Null{}, json.Bool(false), json.Bool(true), json.Num(0), json.Num(-5), json.Num(math.MaxInt64), json.Str(""), json.Str("x"), json.Str("\xff"), json.List{}, json.List{json.Num(1), json.List{nil, 7}}, json.Object{}, object("a", json.Num(2), "a", json.Num(3)), json.Object{Keys: []string{"a"}}, 7, "text"}
	for _, v := range inner {
		for _, key := range []string{"", "a", "\u20ac", "\xff", "a\x00"} {
			got(t, object(key, v), key, v, true)
			got(t, object("x", json.Num(1), key, v, "y", json.Num(2)), key, v, true)
			got(t, object(key, v, key, json.Num(1)), key, v, true)
			got(t, object("x", json.Num(1), key, v, "y", json.Num(3), key, json.Str("later")), key, v, true)
			got(t, object(key, v), key+"b", nil, false)
			got(t, object("b"+key, v), key, nil, false)
			got(t, object("A", v), "a", nil, false)
			got(t, object("x", object(key, v)), key, nil, false)
			got(t, json.List{object(key, v)}, key, nil, false)
			// More keys than values: no Val for it. More values than keys: they are nobody's.
			got(t, json.Object{Keys: []string{key}}, key, nil, false)
			got(t, json.Object{Keys: []string{"x", key}, Vals: []json.Value{v}}, key, nil, false)
			got(t, json.Object{Keys: []string{"x", key, "y"}, Vals: []json.Value{v}}, "x", v, true)
			got(t, json.Object{Keys: []string{key, "x", key}, Vals: []json.Value{v}}, key, v, true)
			got(t, json.Object{Keys: []string{"x", key, key}, Vals: []json.Value{v}}, key, nil, false)
			got(t, json.Object{Keys: []string{key}, Vals: []json.Value{v, json.Num(1)}}, key, v, true)
			got(t, json.Object{Keys: []string{"x"}, Vals: []json.Value{json.Num(1), v}}, key, nil, false)
			got(t, json.Object{Vals: []json.Value{v}}, key, nil, false)
		}
	}
	for _, v := range append(foreign(), json.Null{}, json.Bool(true), json.Num(1), json.Num(-1), json.Str("a"), json.List{}, json.List{json.Str("a")}, json.Object{}, likeObject{object("a", json.Num(1))}) {
		for _, key := range []string{"", "a", "Keys"} {
			if x, ok := json.Field(v, key); x != nil || ok {
				t.Fatalf("Field(%s, %q): %s, %t", tell(v), key, tell(x), ok)
			}
		}
	}
	o := object("a", json.Num(1))
	if x, ok := json.Field(&o, "a"); x != nil || ok {
		t.Error(x, ok)
	}
	// What stands there is told, also where it is no value.
	if x, ok := json.Field(object("a", nil), "a"); x != nil || !ok {
		t.Error(x, ok)
	}
}

// P15.3, P15.4: a field of what Parse answers.
func TestFieldOfWhatIsRead(t *testing.T) {
	v, _, _ := json.Parse([]byte(`{"schemaVersion":2,"\u0061":[1,{"b":null}],"c":{"d":"e"}}`))
	got(t, v, "schemaVersion", json.Num(2), true)
	got(t, v, "a", json.List{json.Num(1), object("b", json.Null{})}, true)
	got(t, v, "c", object("d", json.Str("e")), true)
	got(t, v, "d", nil, false)
	got(t, v, "\\u0061", nil, false)
	c, _ := json.Field(v, "c")
	got(t, c, "d", json.Str("e"), true)
}
