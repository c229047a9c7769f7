package json_test

import (
	library "encoding/json"
	"fmt"
	"math"
	"math/rand"
	"slices"
	"strconv"
	"strings"
	"testing"

	"assay/api"
	"assay/json"
	"assay/lex"
)

// same tells whether two values are alike; lists that are empty may be nil.
func same(a, b json.Value) bool {
	switch x := a.(type) {
	case json.List:
		y, ok := b.(json.List)
		return ok && slices.EqualFunc(x, y, same)
	case json.Object:
		y, ok := b.(json.Object)
		return ok && slices.Equal(x.Keys, y.Keys) && slices.EqualFunc(x.Vals, y.Vals, same)
	}
	switch b.(type) {
	case json.List, json.Object:
		return false
	}
	return a == b
}

// tell is a value for a message, not too long.
func tell(v json.Value) string {
	s := fmt.Sprintf("%#v", v)
	return s[:min(len(s), 500)]
}

// object is an Object of keys and values by turns.
func object(l ...json.Value) json.Object {
	var o json.Object
	for i := 0; i < len(l); i += 2 {
		o.Keys = append(o.Keys, l[i].(string))
		o.Vals = append(o.Vals, l[i+1])
	}
	return o
}

// frame is a list or an object that stands open.
type frame struct {
	closing int
	keys    []string
	vals    []json.Value
}

// Which kinds of tokens may come, by what came last.
const (
	values  = "1 3 7 8 9 10 11"
	first   = "1 3 7 8 9 10 11 4"
	keys    = "11"
	keyOr   = "11 2"
	colon   = "5"
	inList  = "6 4"
	inFrame = "6 2"
	nothing = ""
)

// machine reads tokens one by one with a stack of its own: another reading of the chapter than the program's.
type machine struct {
	stack []*frame
	may   string
	whole json.Value
}

// put lays a value where it belongs.
func (m *machine) put(v json.Value) {
	if len(m.stack) == 0 {
		m.whole, m.may = v, nothing
		return
	}
	f := m.stack[len(m.stack)-1]
	f.vals = append(f.vals, v)
	m.may = inFrame
	if f.closing == lex.End {
		m.may = inList
	}
}

// shut closes what stands open last.
func (m *machine) shut() {
	f := m.stack[len(m.stack)-1]
	m.stack = m.stack[:len(m.stack)-1]
	if f.closing == lex.End {
		m.put(json.List(f.vals))
		return
	}
	m.put(json.Object{Keys: f.keys, Vals: f.vals})
}

// eat takes one token.
func (m *machine) eat(t lex.Token) api.Errno {
	if m.may == nothing {
		return api.ErrRest
	}
	if !slices.Contains(strings.Fields(m.may), strconv.Itoa(t.Kind)) {
		return api.ErrSyntax
	}
	switch t.Kind {
	case lex.Open, lex.Begin:
		if len(m.stack) == 6 {
			return api.ErrDeep
		}
		m.stack = append(m.stack, &frame{closing: t.Kind + 1})
		m.may = first
		if t.Kind == lex.Open {
			m.may = keyOr
		}
	case lex.Close, lex.End:
		m.shut()
	case lex.Colon:
		m.may = values
	case lex.Comma:
		m.may = values
		if m.stack[len(m.stack)-1].closing == lex.Close {
			m.may = keys
		}
	case lex.String:
		if m.may != keys && m.may != keyOr {
			m.put(json.Str(t.Text))
			break
		}
		f := m.stack[len(m.stack)-1]
		if slices.Contains(f.keys, t.Text) {
			return api.ErrTwice
		}
		f.keys = append(f.keys, t.Text)
		m.may = colon
	default:
		m.put(map[int]json.Value{lex.Null: json.Null{}, lex.True: json.Bool(true), lex.False: json.Bool(false), lex.Number: json.Num(t.N)}[t.Kind])
	}
	return api.OK
}

// valueOf says what Parse answers as the chapter does.
func valueOf(s string) (json.Value, api.Errno, int) {
	tokens, e, at := lex.All([]byte(s))
	if e != api.OK {
		return nil, e, at
	}
	m := &machine{may: values}
	for _, t := range tokens {
		if e := m.eat(t); e != api.OK {
			return nil, e, t.At
		}
	}
	if m.may != nothing {
		return nil, api.ErrSyntax, len(s)
	}
	return m.whole, api.OK, 0
}

// check holds Parse against the chapter's words.
func check(t *testing.T, s string) api.Errno {
	t.Helper()
	want, bad, place := valueOf(s)
	v, e, at := json.Parse([]byte(s))
	if !same(v, want) || e != bad || at != place {
		t.Fatalf("Parse(%.300q): %s, %d at %d, want %s, %d at %d", s, tell(v), e, at, tell(want), bad, place)
	}
	// A library reads the same texts, but for the bounds and the keys that come twice.
	if valid := library.Valid([]byte(s)); valid && (e == api.ErrSyntax || e == api.ErrRest) || !valid && e == api.OK {
		t.Fatalf("Parse(%.300q): %d at %d, the library: %t", s, e, at, valid)
	}
	return e
}

// refused holds that Parse answers an error at a place, whatever the words above say.
func refused(t *testing.T, s string, bad api.Errno, place int) {
	t.Helper()
	if v, e, at := json.Parse([]byte(s)); v != nil || e != bad || at != place {
		t.Fatalf("Parse(%.300q): %s, %d at %d, want %d at %d", s, tell(v), e, at, bad, place)
	}
	check(t, s)
}

// taken holds that Parse answers a value, whatever the words above say.
func taken(t *testing.T, s string, want json.Value) {
	t.Helper()
	if v, e, at := json.Parse([]byte(s)); !same(v, want) || e != api.OK || at != 0 {
		t.Fatalf("Parse(%.300q): %s, %d at %d, want %s", s, tell(v), e, at, tell(want))
	}
	check(t, s)
}

// P15.1
func TestTheExamplesOfParse(t *testing.T) {
	taken(t, `{"a":[1,null],"b":{}}`, object("a", json.List{json.Num(1), json.Null{}}, "b", json.Object{}))
	refused(t, "[1,]", api.ErrSyntax, 3)
	refused(t, "[1 2]", api.ErrSyntax, 3)
	refused(t, `{"a" 1}`, api.ErrSyntax, 5)
	refused(t, "{1:2}", api.ErrSyntax, 1)
	refused(t, "]", api.ErrSyntax, 0)
	refused(t, "   ", api.ErrSyntax, 3)
	refused(t, `{"a":1,"a"`, api.ErrTwice, 7)
	taken(t, "[[[[[[]]]]]]", json.List{json.List{json.List{json.List{json.List{json.List{}}}}}})
	refused(t, "[[[[[[[]]]]]]]", api.ErrDeep, 6)
	refused(t, "1 2", api.ErrRest, 2)
	refused(t, "[1", api.ErrSyntax, 2)
	taken(t, `"x"`, json.Str("x"))
}

// P15.1: the six kinds, each alone, in a list and in an object, with and without blanks.
func TestEveryKindOfValue(t *testing.T) {
	for s, want := range map[string]json.Value{
		"null": json.Null{}, "true": json.Bool(true), "false": json.Bool(false),
		"0": json.Num(0), "1": json.Num(1), "10": json.Num(10), "2147483648": json.Num(1 << 31), "9223372036854775807": json.Num(math.MaxInt64),
		`""`: json.Str(""), `"null"`: json.Str("null"), `"0"`: json.Str("0"), `"[1,{\"a\":2}]"`: json.Str(`[1,{"a":2}]`), `"\u0000"`: json.Str("\x00"),
		"[]": json.List{}, "[0]": json.List{json.Num(0)}, "[[],[]]": json.List{json.List{}, json.List{}},
		"{}": json.Object{}, `{"":{}}`: object("", json.Object{}), `{"b":1,"a":[]}`: object("b", json.Num(1), "a", json.List{}),
	} {
		taken(t, s, want)
		taken(t, " \t\r\n"+s+"\n\r\t ", want)
		taken(t, "["+s+"]", json.List{want})
		taken(t, "[ "+s+" , "+s+"\n]", json.List{want, want})
		taken(t, `{"k":`+s+"}", object("k", want))
		taken(t, "{ \"k\"\t: "+s+"\n, \"l\" :"+s+" }", object("k", want, "l", want))
	}
}

// P15.1: what lex refuses, where it stands, whatever else is wrong ahead of it or behind it.
func TestWhatLexRefuses(t *testing.T) {
	for _, bad := range []string{"01", "-1", "1.5", "nulls", "True", "'", "\x00", "\xff", `"\x"`, `"\ud800"`, "\"a\n\"", "9223372036854775808", `"open`} {
		for _, ahead := range []string{"", " ", "[", "[1,", `{"a":`, "]", "1 2 ", "[[[[[[[", `{"a":1,"a":`, "[1 2 ", ", ", "{1 "} {
			refused(t, ahead+bad, api.ErrToken, len(ahead))
			if !strings.HasPrefix(bad, `"`) {
				refused(t, ahead+bad+" ] }", api.ErrToken, len(ahead))
			}
		}
	}
	for _, c := range []string{" ", "[", "1", "x", `"`, "\xff"} {
		refused(t, strings.Repeat(c, 4097), api.ErrLong, 0)
		refused(t, strings.Repeat(c, 100000), api.ErrLong, 0)
	}
}

// P15.1: texts of just MaxBlob bytes, and one more.
func TestAsLongAsMayBe(t *testing.T) {
	s := strings.Repeat("a", 4094)
	taken(t, `"`+s+`"`, json.Str(s))
	refused(t, `"`+s+`a"`, api.ErrLong, 0)
	taken(t, "["+strings.Repeat("1,", 2046)+"1 ]", slices.Repeat(json.List{json.Num(1)}, 2047))
	refused(t, "["+strings.Repeat("1,", 2046)+"1  ]", api.ErrLong, 0)
	taken(t, "7"+strings.Repeat(" ", 4095), json.Num(7))
	refused(t, "7"+strings.Repeat(" ", 4096), api.ErrLong, 0)
	refused(t, strings.Repeat(" ", 4096), api.ErrSyntax, 4096)
	refused(t, strings.Repeat(" ", 4095)+"]", api.ErrSyntax, 4095)
	refused(t, "["+strings.Repeat(" ", 4095), api.ErrSyntax, 4096)
	refused(t, "1"+strings.Repeat(" ", 4094)+"1", api.ErrRest, 4095)
	refused(t, strings.Repeat("[", 4096), api.ErrDeep, 6)
	refused(t, strings.Repeat("[]", 2048), api.ErrRest, 2)
	refused(t, strings.Repeat("1,", 2048), api.ErrRest, 1)
	refused(t, "["+strings.Repeat("1,", 2047)+"]", api.ErrSyntax, 4095)
}

// signs is one token of each kind, by its number.
func signs() []string {
	return []string{"", "{", "}", "[", "]", ":", ",", "null", "true", "false", "7", `"s"`}
}

// isWord tells whether a text ends with what goes on in a word.
func isWord(s string) bool {
	return s != "" && strings.Contains("abcdefghijklmnopqrstuvwxyz0123456789", s[len(s)-1:])
}

// P15.1: at each kind of place every token that can't stand there, and the end, with the place; those that can are refused nowhere ahead of what is behind them.
func TestWhatCanGoOn(t *testing.T) {
	for _, c := range []struct{ ahead, may string }{
		{"", values},
		{"[", first},
		{"[1", inList}, {"[null", inList}, {"[true", inList}, {"[false", inList}, {`["s"`, inList}, {"[[]", inList}, {"[{}", inList}, {"[[1,[2]]", inList}, {`[{"a":1}`, inList}, {"[1,2", inList},
		{"[1,", values}, {"[[],", values}, {"[1,{},", values},
		{"{", keyOr}, {"[{", keyOr}, {`{"a":{`, keyOr},
		{`{"a"`, colon}, {`{"a":1,"b"`, colon}, {`[{"s"`, colon},
		{`{"a":`, values}, {`{"a":1,"b":`, values}, {`{"s":`, values},
		{`{"a":1`, inFrame}, {`{"a":null`, inFrame}, {`{"a":"s"`, inFrame}, {`{"a":[]`, inFrame}, {`{"a":{}`, inFrame}, {`{"a":{"s":1}`, inFrame}, {`{"a":1,"b":2`, inFrame},
		{`{"a":1,`, keys}, {`{"a":{},`, keys}, {`[{"a":[1,2],`, keys},
	} {
		may := strings.Fields(c.may)
		for _, blank := range []string{"", " ", "\r\n\t"} {
			ahead := c.ahead + blank
			refused(t, ahead, api.ErrSyntax, len(ahead))
			for kind, sign := range signs()[1:] {
				s := ahead + sign
				if isWord(c.ahead) && isWord(sign) && blank == "" {
					continue // they would be one word
				}
				if slices.Contains(may, strconv.Itoa(kind+1)) {
					if _, e, at := json.Parse([]byte(s)); e != api.OK && (e != api.ErrSyntax || at != len(s)) {
						t.Fatalf("Parse(%q): %d at %d", s, e, at)
					}
					check(t, s)
					continue
				}
				refused(t, s, api.ErrSyntax, len(ahead))
				for _, behind := range signs()[1:] {
					refused(t, s+" "+behind, api.ErrSyntax, len(ahead))
				}
			}
		}
	}
}

// P15.1: every text of some tokens that can be gone on with, and each token behind it, and the end.
func TestEveryTokenAtEveryPlace(t *testing.T) {
	pieces := append(signs()[1:], `"\u0073"`, `"b"`)
	seen := map[api.Errno]int{}
	var goOn func(ahead string, n int)
	goOn = func(ahead string, n int) {
		seen[check(t, ahead)]++
		for i, p := range pieces {
			// Behind the first tokens null, true, false and 7 are one and the same.
			if n < 5 && i >= 7 && i <= 9 {
				continue
			}
			s := ahead + " " + p
			e := check(t, s)
			_, _, at := json.Parse([]byte(s))
			if n > 0 && (e == api.OK || e == api.ErrSyntax && at == len(s)) {
				goOn(s, n-1)
			}
		}
	}
	goOn("", 8)
	for _, e := range []api.Errno{api.OK, api.ErrSyntax} {
		if seen[e] < 500 {
			t.Errorf("only %d of %d", seen[e], e)
		}
	}
}

// open is signs that open, by the bits of a number, and those that close them; an object has a key.
func open(bits, n int) (string, string) {
	ahead, behind := "", ""
	for i := range n {
		if bits>>i&1 == 0 {
			ahead, behind = ahead+"[", "]"+behind
		} else {
			ahead, behind = ahead+`{"a":`, "}"+behind
		}
	}
	return ahead, behind
}

// P15.1: lists and objects nested just to MaxDepth, and one more deeply: each mixture, alone and behind others that have been closed.
func TestNesting(t *testing.T) {
	for bits := range 1 << 6 {
		ahead, behind := open(bits, 6)
		for _, inner := range []string{"1", "null", `"s"`} {
			if e := check(t, ahead+inner+behind); e != api.OK {
				t.Fatal(ahead, e)
			}
			for _, one := range []string{"[", "{"} {
				refused(t, ahead+one, api.ErrDeep, len(ahead))
				refused(t, ahead+" "+one+inner, api.ErrDeep, len(ahead)+1)
				refused(t, ahead+one+"]}"+behind, api.ErrDeep, len(ahead))
			}
		}
		// What has been closed counts no more, however deep it was.
		outer, close := open(bits, 1)
		deep, shut := open(bits>>1, 5)
		next := `,"b":`
		if outer == "[" {
			next = ","
		}
		closed := outer + deep + "1" + shut + next
		if e := check(t, closed+deep+"1"+shut+close); e != api.OK {
			t.Fatal(closed, e)
		}
		for _, one := range []string{"[", "{"} {
			refused(t, closed+deep+one, api.ErrDeep, len(closed+deep))
			refused(t, closed+deep+"1"+shut+strings.Replace(next, "b", "c", 1)+deep+one, api.ErrDeep, len(closed+deep+"1"+shut+next+deep))
		}
	}
	taken(t, "[[[[[[],[]],[]],[]],[]],[]]", json.List{json.List{json.List{json.List{json.List{json.List{}, json.List{}}, json.List{}}, json.List{}}, json.List{}}, json.List{}})
	many := "[" + strings.Repeat("[],{},", 200) + "[[[[[]]]]]]"
	if e := check(t, many); e != api.OK {
		t.Error(e)
	}
	refused(t, "["+strings.Repeat("[],{},", 200)+"[[[[[{}]]]]]]", api.ErrDeep, 1+1200+5)
	// A sign that can't stand there is no nesting.
	refused(t, "[[[[[{[", api.ErrSyntax, 6)
	refused(t, "[[[[[{{", api.ErrSyntax, 6)
	refused(t, "[[[[[[1[", api.ErrSyntax, 7)
	refused(t, `[[[[[{"a"[`, api.ErrSyntax, 9)
	refused(t, "[[[[[[]]]]]][", api.ErrRest, 12)
}

// P15.1: a key that comes twice, in any spelling, ahead of its colon; and those that do not.
func TestKeysTwice(t *testing.T) {
	for _, k := range [][2]string{{`""`, `""`}, {`"a"`, `"a"`}, {`"a"`, `"\u0061"`}, {`"\u0061"`, `"a"`}, {`"\/"`, `"/"`}, {`"\u20AC"`, "\"\u20ac\""}, {`"\n"`, `"\u000a"`}, {`"\u00e9"`, `"\u00E9"`}, {`"schemaVersion"`, `"schemaVersion"`}} {
		one, two := k[0], k[1]
		for _, v := range []string{"1", "null", "[]", "{}", "[1,[2]]", `{` + two + `:1}`, `[{` + one + `:{` + two + `:2}}]`} {
			ahead := "{" + one + ":" + v + ","
			for _, behind := range []string{"", ":", ":1}", "1", "}", ",", "]", "[", one, ":" + one, " :1, " + one + ":2}"} {
				refused(t, ahead+two+behind, api.ErrTwice, len(ahead))
				refused(t, "[1,"+ahead+" "+two+behind, api.ErrTwice, 3+len(ahead)+1)
			}
			far := ahead + `"x":1,"y":{` + one + `:1},"z":[],`
			refused(t, far+two, api.ErrTwice, len(far))
			refused(t, far+`"w":2,`+two+":1}", api.ErrTwice, len(far)+6)
			if e := check(t, ahead+`"other":1}`); e != api.OK {
				t.Fatal(ahead, e)
			}
		}
		// In an object within an object, or behind one, it is no second one.
		for _, s := range []string{"{" + one + ":{" + two + ":1}}", "[{" + one + ":1},{" + two + ":1}]", `{"x":{` + one + `:1},"y":{` + two + `:1},` + one + ":1}", "{" + one + ":" + two + "}", "[" + one + "," + two + "]"} {
			if e := check(t, s); e != api.OK {
				t.Fatal(s, e)
			}
		}
		inner := "{" + one + ":{" + two + ":1,"
		refused(t, inner+one, api.ErrTwice, len(inner))
	}
	// Texts that are not the same, though they look so.
	for _, s := range []string{`{"a":1,"A":2}`, `{"a":1,"a ":2}`, `{"a":1,"":2}`, `{"a":1,"a\u0000":2}`, "{\"\u00e9\":1,\"e\u0301\":2}", `{"\\n":1,"\n":2}`, `{"1":1,"01":2}`} {
		if e := check(t, s); e != api.OK {
			t.Error(s, e)
		}
	}
	all := "{"
	for i := range 500 {
		all += `"` + strconv.Itoa(i) + `":`
		if i < 499 {
			all += "1,"
		}
	}
	if e := check(t, all+"1}"); e != api.OK {
		t.Error(e)
	}
	for _, i := range []int{0, 1, 250, 498, 499} {
		refused(t, all+`1,"`+strconv.Itoa(i)+`"`, api.ErrTwice, len(all)+2)
	}
}

// P15.1: of several faults the first one that comes up.
func TestTheFirstFault(t *testing.T) {
	refused(t, `{"a":1,"a" x`, api.ErrToken, 11)
	refused(t, `{"a":1 "a":1}`, api.ErrSyntax, 7)
	refused(t, `{"a":1,"a":[1,]}`, api.ErrTwice, 7)
	refused(t, `{"a":[1,],"a":1}`, api.ErrSyntax, 8)
	refused(t, `{"a":[[[[[[1]]]]]],"a":1}`, api.ErrDeep, 10)
	refused(t, `{"a":1,"a":[[[[[[1]]]]]]}`, api.ErrTwice, 7)
	refused(t, `{"a":1,"b" "a"`, api.ErrSyntax, 11)
	refused(t, `{"a":1}{"a":1,"a":2}`, api.ErrRest, 7)
	refused(t, `{"a":1,"a":2}]`, api.ErrTwice, 7)
	refused(t, "[1,]1", api.ErrSyntax, 3)
	refused(t, "1 ]", api.ErrRest, 2)
	refused(t, "[] [[[[[[[", api.ErrRest, 3)
	refused(t, "[[[[[[[ 1 2", api.ErrDeep, 6)
	refused(t, "[[[[[[1 2 [", api.ErrSyntax, 8)
	refused(t, "[1}]", api.ErrSyntax, 2)
	refused(t, `{"a":1]`, api.ErrSyntax, 6)
	refused(t, `{"a":1,}`, api.ErrSyntax, 7)
	refused(t, "[,1]", api.ErrSyntax, 1)
	refused(t, `{,"a":1}`, api.ErrSyntax, 1)
	refused(t, `{"a"}`, api.ErrSyntax, 4)
	refused(t, `{"a","b"}`, api.ErrSyntax, 4)
	refused(t, `{"a"::1}`, api.ErrSyntax, 5)
	refused(t, `["a":1]`, api.ErrSyntax, 4)
	refused(t, "[1,,2]", api.ErrSyntax, 3)
	refused(t, ",", api.ErrSyntax, 0)
	refused(t, ":", api.ErrSyntax, 0)
	refused(t, "}", api.ErrSyntax, 0)
	refused(t, " [ [ ] } ", api.ErrSyntax, 7)
	refused(t, `{null:1}`, api.ErrSyntax, 1)
	refused(t, `{[]:1}`, api.ErrSyntax, 1)
	refused(t, "", api.ErrSyntax, 0)
	if v, e, at := json.Parse(nil); v != nil || e != api.ErrSyntax || at != 0 {
		t.Error(v, e, at)
	}
}

// P15.1: every token behind a whole value.
func TestBehindAWholeValue(t *testing.T) {
	for _, v := range []string{"null", "true", "false", "0", "12", `""`, `"a"`, "[]", "[1,2]", "{}", `{"a":{"b":[]}}`, "[[[[[[]]]]]]"} {
		for _, sign := range signs()[1:] {
			for _, blank := range []string{" ", "\n\t"} {
				refused(t, v+blank+sign, api.ErrRest, len(v+blank))
				refused(t, blank+v+blank+sign+" 1 ] }", api.ErrRest, len(blank+v+blank))
			}
		}
		for _, sign := range []string{"{", "}", "[", "]", ":", ",", `"a"`} {
			refused(t, v+sign, api.ErrRest, len(v))
		}
		for _, blanks := range []string{" ", "\n", "\r\n \t"} {
			if e := check(t, v+blanks); e != api.OK {
				t.Fatal(v, e)
			}
		}
	}
}

// good is a value by chance in which there is no fault, nested at most so deeply.
func good(r *rand.Rand, depth int) json.Value {
	kind := r.Intn(6)
	if depth == 0 {
		kind = r.Intn(4)
	}
	switch kind {
	case 0:
		return json.Null{}
	case 1:
		return json.Bool(r.Intn(2) == 1)
	case 2:
		return json.Num(r.Int63() >> r.Intn(63))
	case 3:
		return json.Str(goodText(r))
	case 4:
		l := make(json.List, r.Intn(4))
		for i := range l {
			l[i] = good(r, depth-1)
		}
		return l
	}
	var o json.Object
	for range r.Intn(4) {
		if key := goodText(r); !slices.Contains(o.Keys, key) {
			o.Keys = append(o.Keys, key)
			o.Vals = append(o.Vals, good(r, depth-1))
		}
	}
	return o
}

// goodText is a text by chance.
func goodText(r *rand.Rand) string {
	l := []string{"", "a", "b", "digest", "\"", "\\", "/", "\n", "\x00", "\x1f", "\x7f", "\u00e9", "\u20ac", "\ufffd", "\uffff", "\U0001f600", "\U0010ffff", "null", " ", "[", "}"}
	s := ""
	for range r.Intn(3) {
		s += l[r.Intn(len(l))]
	}
	return s
}

// textOf is a value's text, said once more.
func textOf(v json.Value) string {
	quoted := func(s string) string {
		q, _ := lex.Quote(s)
		return q
	}
	switch x := v.(type) {
	case json.Null:
		return "null"
	case json.Bool:
		return map[json.Bool]string{true: "true", false: "false"}[x]
	case json.Num:
		return strconv.FormatInt(int64(x), 10)
	case json.Str:
		return quoted(string(x))
	case json.List:
		var l []string
		for _, e := range x {
			l = append(l, textOf(e))
		}
		return "[" + strings.Join(l, ",") + "]"
	}
	var l []string
	for i, k := range v.(json.Object).Keys {
		l = append(l, quoted(k)+":"+textOf(v.(json.Object).Vals[i]))
	}
	return "{" + strings.Join(l, ",") + "}"
}

// P15.2, P15.4
func TestThereAndBack(t *testing.T) {
	r := rand.New(rand.NewSource(1))
	long := 0
	for range 50000 {
		v := good(r, r.Intn(7))
		s, e := json.Print(v)
		if e != api.OK || s != textOf(v) {
			t.Fatalf("Print(%s): %.300q, %d, want %.300q", tell(v), s, e, textOf(v))
		}
		if len(s) > 4096 {
			long++
			refused(t, s, api.ErrLong, 0)
			continue
		}
		taken(t, s, v)
		spread := spaced(r, s)
		if len(spread) > 4096 {
			continue
		}
		taken(t, spread, v)
		back, _, _ := json.Parse([]byte(spread))
		if again, e := json.Print(back); e != api.OK || again != s {
			t.Fatalf("%q comes back as %q, %d", s, again, e)
		}
	}
	if long > 25000 {
		t.Errorf("%d are too long", long)
	}
}

// spaced is a text with blanks by chance about its tokens.
func spaced(r *rand.Rand, s string) string {
	tokens, _, _ := lex.All([]byte(s))
	out := ""
	for i, k := range tokens {
		end := len(s)
		if i+1 < len(tokens) {
			end = tokens[i+1].At
		}
		out += []string{"", " ", "\n", "\t\r"}[r.Intn(4)] + s[k.At:end]
	}
	return out + []string{"", " ", "\r\n"}[r.Intn(3)]
}

// P15.1, P15.4: a text by chance that is nearly one of a value.
func TestNearlyAValue(t *testing.T) {
	r := rand.New(rand.NewSource(2))
	pieces := append(signs()[1:], `"a"`, `"a":`, `,"a":1`, `{"a":1,"a":2},`, `"a":0,"a":0,`, "[", "]", "{", "}", ",", ",", "[[[[", "]]]", "[[[[[1]]]]],", "[[[[[[1]]]]]],", `"\u0061"`, "x", "0", " ")
	seen := map[api.Errno]int{}
	for range 200000 {
		s := textOf(good(r, 1+r.Intn(6)))
		if len(s) > 200 {
			continue
		}
		tokens, _, _ := lex.All([]byte(s))
		for range 1 + r.Intn(2) {
			at := tokens[r.Intn(len(tokens))].At
			if at > len(s) {
				continue
			}
			behind := s[at:]
			if next, e, _ := lex.All([]byte(behind)); r.Intn(2) == 0 && e == api.OK && len(next) > 1 {
				behind = behind[next[1].At:]
			}
			s = s[:at] + pieces[r.Intn(len(pieces))] + " " + behind
		}
		e := check(t, s)
		seen[e]++
		if e != api.OK {
			continue
		}
		v, _, _ := json.Parse([]byte(s))
		if p, e := json.Print(v); e != api.OK || p != textOf(v) {
			t.Fatalf("%q: %q, %d", s, p, e)
		}
	}
	for _, e := range []api.Errno{api.OK, api.ErrSyntax, api.ErrDeep, api.ErrTwice, api.ErrRest, api.ErrToken} {
		if seen[e] < 50 {
			t.Errorf("only %d of %d", seen[e], e)
		}
	}
}

// P15.1, P15.2, P15.4: every rune as a text, as a key, and by its number.
func TestEveryRune(t *testing.T) {
	for v := rune(0); v <= 0x10FFFF; v++ {
		if v >= 0xD800 && v <= 0xDFFF {
			continue
		}
		text := string(v)
		quoted, _ := lex.Quote(text)
		s, e := json.Print(json.Str(text))
		if s != quoted || e != api.OK {
			t.Fatalf("%x: %q, %d", v, s, e)
		}
		if x, e, at := json.Parse([]byte(s)); x != json.Str(text) || e != api.OK || at != 0 {
			t.Fatalf("%x: %#v, %d at %d", v, x, e, at)
		}
		if v > 0x3000 && v%17 != 0 {
			continue
		}
		s, e = json.Print(object(text, json.List{json.Str(text + "a")}))
		if want := "{" + quoted + ":[" + quoted[:len(quoted)-1] + "a\"]}"; s != want || e != api.OK {
			t.Fatalf("%x: %q, %d", v, s, e)
		}
		taken(t, s, object(text, json.List{json.Str(text + "a")}))
	}
}
