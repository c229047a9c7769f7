package lex_test

import (
	"bytes"
	"encoding/json"
	"math/big"
	"math/rand"
	"slices"
	"strconv"
	"strings"
	"testing"
	"unicode/utf8"

	"assay/api"
	"assay/lex"
)

// wordBytes is all that may stand in a word.
const wordBytes = "abcdefghijklmnopqrstuvwxyzABCDEFGHIJKLMNOPQRSTUVWXYZ0123456789_+-."

// runeBytes is how many bytes the UTF-8 of one rune has with which some bytes begin, by the table of RFC 3629; 0, if there is none.
func runeBytes(b string) int {
	for _, row := range [][]byte{
		{0x00, 0x7F},
		{0xC2, 0xDF, 0x80, 0xBF},
		{0xE0, 0xE0, 0xA0, 0xBF, 0x80, 0xBF},
		{0xE1, 0xEC, 0x80, 0xBF, 0x80, 0xBF},
		{0xED, 0xED, 0x80, 0x9F, 0x80, 0xBF},
		{0xEE, 0xEF, 0x80, 0xBF, 0x80, 0xBF},
		{0xF0, 0xF0, 0x90, 0xBF, 0x80, 0xBF, 0x80, 0xBF},
		{0xF1, 0xF3, 0x80, 0xBF, 0x80, 0xBF, 0x80, 0xBF},
		{0xF4, 0xF4, 0x80, 0x8F, 0x80, 0xBF, 0x80, 0xBF},
	} {
		n := len(row) / 2
		fits := len(b) >= n
		for i := 0; fits && i < n; i++ {
			fits = row[2*i] <= b[i] && b[i] <= row[2*i+1]
		}
		if fits {
			return n
		}
	}
	return 0
}

// isText says whether some bytes are UTF-8 throughout.
func isText(s string) bool {
	for s != "" {
		n := runeBytes(s)
		if n == 0 {
			return false
		}
		s = s[n:]
	}
	return true
}

// fourDigits is what four digits of base sixteen are as UTF-8; "", if these are none, or a surrogate's.
func fourDigits(s string) string {
	if len(s) < 4 {
		return ""
	}
	v := 0
	for i := range 4 {
		k := strings.IndexByte("0123456789abcdefABCDEF", s[i])
		if k < 0 {
			return ""
		}
		if k > 15 {
			k -= 6
		}
		v = 16*v + k
	}
	switch {
	case v < 0x80:
		return string([]byte{byte(v)})
	case v < 0x800:
		return string([]byte{byte(0xC0 | v>>6), byte(0x80 | v&63)})
	case v >= 0xD800 && v <= 0xDFFF:
		return ""
	}
	return string([]byte{byte(0xE0 | v>>12), byte(0x80 | v>>6&63), byte(0x80 | v&63)})
}

// stringOf is the text of the string with which some bytes begin, and its length; 0, if it is none. It says it as the chapter does, byte by byte.
func stringOf(s string) (string, int) {
	text := ""
	for at := 1; at < len(s); {
		n := runeBytes(s[at:])
		switch {
		case s[at] == '"':
			return text, at + 1
		case s[at] == '\\' && at+1 < len(s) && s[at+1] == 'u':
			one := fourDigits(s[at+2:])
			if one == "" {
				return "", 0
			}
			text += one
			at += 6
		case s[at] == '\\' && at+1 < len(s):
			k := strings.IndexByte(`"\/bfnrt`, s[at+1])
			if k < 0 {
				return "", 0
			}
			text += "\x22\x5c\x2f\x08\x0c\x0a\x0d\x09"[k : k+1]
			at += 2
		case s[at] == '\\' || s[at] < 0x20 || n == 0:
			return "", 0
		default:
			text += s[at : at+n]
			at += n
		}
	}
	return "", 0
}

// wordOf is the token that a word is; of kind 0, if it is none.
func wordOf(w string) lex.Token {
	for i, k := range []string{"null", "true", "false"} {
		if w == k {
			return lex.Token{Kind: 7 + i}
		}
	}
	v, ok := new(big.Int).SetString(w, 10)
	if ok && v.String() == w && v.Sign() >= 0 && v.IsInt64() {
		return lex.Token{Kind: 10, N: int(v.Int64())}
	}
	return lex.Token{}
}

// tokensOf says what All answers as the chapter does.
func tokensOf(s string) ([]lex.Token, api.Errno, int) {
	if len(s) > 4096 {
		return nil, api.ErrLong, 0
	}
	var l []lex.Token
	for at := 0; at < len(s); {
		if strings.IndexByte("\x20\x09\x0a\x0d", s[at]) >= 0 {
			at++
			continue
		}
		t, n := lex.Token{Kind: 1 + strings.IndexByte("{}[]:,", s[at])}, 1
		if s[at] == '"' {
			t.Kind = 11
			if t.Text, n = stringOf(s[at:]); n == 0 {
				t.Kind = 0
			}
		} else if t.Kind == 0 {
			n = len(s[at:]) - len(strings.TrimLeft(s[at:], wordBytes))
			t = wordOf(s[at : at+n])
		}
		if t.Kind == 0 {
			return nil, api.ErrToken, at
		}
		t.At = at
		l = append(l, t)
		at += n
	}
	return l, api.OK, 0
}

// check holds All against the chapter's words.
func check(t *testing.T, s string) {
	t.Helper()
	want, bad, place := tokensOf(s)
	l, e, at := lex.All([]byte(s))
	if !slices.Equal(l, want) || e != bad || at != place {
		t.Fatalf("All(%q): %v, %d at %d, want %v, %d at %d", s, l, e, at, want, bad, place)
	}
}

// refused holds that All answers ErrToken at a place, whatever the words above say.
func refused(t *testing.T, s string, place int) {
	t.Helper()
	if l, e, at := lex.All([]byte(s)); len(l) != 0 || e != api.ErrToken || at != place {
		t.Fatalf("All(%q): %v, %d at %d, want ErrToken at %d", s, l, e, at, place)
	}
	check(t, s)
}

// taken holds that All answers one token, whatever the words above say.
func taken(t *testing.T, s string, want lex.Token) {
	t.Helper()
	if l, e, at := lex.All([]byte(s)); len(l) != 1 || l[0] != want || e != api.OK || at != 0 {
		t.Fatalf("All(%q): %v, %d at %d, want %v", s, l, e, at, want)
	}
	check(t, s)
}

// text is a String's token that stands at 0.
func text(s string) lex.Token { return lex.Token{Kind: lex.String, Text: s} }

// number is a Number's token that stands at 0.
func number(n int) lex.Token { return lex.Token{Kind: lex.Number, N: n} }

// P14.1
func TestTheKindsAreTheTables(t *testing.T) {
	for i, s := range []string{"{", "}", "[", "]", ":", ",", "null", "true", "false", "0", `""`} {
		taken(t, s, lex.Token{Kind: i + 1})
	}
	names := []int{lex.Open, lex.Close, lex.Begin, lex.End, lex.Colon, lex.Comma, lex.Null, lex.True, lex.False, lex.Number, lex.String}
	if !slices.Equal(names, []int{1, 2, 3, 4, 5, 6, 7, 8, 9, 10, 11}) {
		t.Error(names)
	}
}

// P14.1
func TestTheExamplesOfAll(t *testing.T) {
	l, e, at := lex.All([]byte(`{"a": [1, true]}`))
	want := []lex.Token{{Kind: lex.Open}, {Kind: lex.String, At: 1, Text: "a"}, {Kind: lex.Colon, At: 4}, {Kind: lex.Begin, At: 6}, {Kind: lex.Number, At: 7, N: 1}, {Kind: lex.Comma, At: 8}, {Kind: lex.True, At: 10}, {Kind: lex.End, At: 14}, {Kind: lex.Close, At: 15}}
	if !slices.Equal(l, want) || e != api.OK || at != 0 {
		t.Errorf("%v, %d at %d", l, e, at)
	}
	for _, s := range []string{"", " ", "\t", "\n", "\r", " \t\n\r \r\n"} {
		if l, e, at := lex.All([]byte(s)); len(l) != 0 || e != api.OK || at != 0 {
			t.Errorf("All(%q): %v, %d at %d", s, l, e, at)
		}
	}
	for _, s := range []string{"01", "-1", "1.5", "nulls", "True", "1e3", "9223372036854775808", `"a`, `"\x"`, `"\ud800"`, "\"\n\"", "\"\xc0\x80\"", "'", "\x00"} {
		refused(t, s, 0)
	}
	refused(t, "[a", 1)
	taken(t, "9223372036854775807", number(9223372036854775807))
	taken(t, `"\u0041\n\/"`, text("A\n/"))
	if l, e, at := lex.All(bytes.Repeat([]byte{' '}, 4097)); len(l) != 0 || e != api.ErrLong || at != 0 {
		t.Errorf("4097 blanks: %v, %d at %d", l, e, at)
	}
}

// P14.2
func TestTheExamplesOfQuote(t *testing.T) {
	for _, c := range []struct {
		s, want string
		e       api.Errno
	}{{"a/\"", `"a/\""`, api.OK}, {"\x01\n\x7f", "\"\\u0001\\n\x7f\"", api.OK}, {"\xff", "", api.ErrToken}, {"", `""`, api.OK}} {
		if q, e := lex.Quote(c.s); q != c.want || e != c.e {
			t.Errorf("Quote(%q): %q, %d", c.s, q, e)
		}
	}
}

// P14.1: every byte as all of b, behind and ahead of each kind of token, with blanks about it.
func TestEveryByteBesideTokens(t *testing.T) {
	for v := range 256 {
		c := string([]byte{byte(v)})
		check(t, c)
		for _, k := range []string{"{", "}", "[", "]", ":", ",", "null", "true", "false", "0", "7", "10", `""`, `"a"`, " ", "\n"} {
			for _, s := range []string{k + c, c + k, k + " " + c, k + c + k, k + " " + c + " " + k} {
				check(t, s)
			}
		}
		for w := range 256 {
			check(t, c+string([]byte{byte(w)}))
		}
	}
}

// P14.1: how many bytes are a token alone, or nothing, counted from the chapter's words, so that the words above are held too.
func TestHowManyBytesAreTokens(t *testing.T) {
	tokens, blanks, faults, goOn, content, escapes := 0, 0, 0, 0, 0, 0
	for v := range 256 {
		c := byte(v)
		switch l, e, at := lex.All([]byte{c}); {
		case e == api.ErrToken && at == 0:
			faults++
		case e == api.OK && len(l) == 0:
			blanks++
		case e == api.OK && len(l) == 1:
			tokens++
		}
		// What goes on with the word 1 makes one word of both, which is a token with a digit alone.
		if _, e, at := lex.All([]byte{'1', c}); e == api.ErrToken && at == 0 || c >= '0' && c <= '9' {
			goOn++
		}
		if _, e, _ := lex.All([]byte{'"', c, '"'}); e == api.OK {
			content++
		}
		if _, e, _ := lex.All([]byte{'"', '\\', c, '"'}); e == api.OK {
			escapes++
		}
	}
	if tokens != 6+10 || blanks != 4 || faults != 256-tokens-blanks {
		t.Error(tokens, blanks, faults)
	}
	if goOn != 26+26+10+4 {
		t.Error(goOn)
	}
	if content != 0x80-0x20-2 || escapes != 8 {
		t.Error(content, escapes)
	}
}

// P14.1: every byte, and every two, between quotation marks, behind a backslash, and where the string does not end.
func TestEveryByteInAString(t *testing.T) {
	for v := range 256 {
		c := string([]byte{byte(v)})
		for _, s := range []string{`"` + c + `"`, `"\` + c + `"`, `"` + c, `"\` + c, `"a` + c + `b"`, `"a\` + c + `b"`, `"\\` + c + `"`, `"a"` + c, `"` + c + c + `"`} {
			check(t, s)
		}
		for w := range 256 {
			d := string([]byte{byte(w)})
			check(t, `"`+c+d+`"`)
			check(t, `"\`+c+d+`"`)
			check(t, `"`+c+`\`+d+`"`)
		}
		for at := range 7 {
			s := []byte(`"\u00e9"`)
			s[1+at] = byte(v)
			check(t, string(s))
		}
	}
	for c := range 0x20 {
		refused(t, `"`+string(rune(c))+`"`, 0)
		refused(t, `"abc`+string(rune(c))+`def"`, 0)
		refused(t, ` "abc" "`+string(rune(c))+`"`, 7)
	}
	taken(t, "\" \x7f!#[]'\"", text(" \x7f!#[]'"))
}

// P14.1: just as many bytes as may be, and one more; ErrLong ahead of what else is wrong.
func TestHowLong(t *testing.T) {
	for _, n := range []int{0, 1, 2, 63, 4095, 4096, 4097, 4098, 8192, 4096 + 256, 1<<16 + 1, 1 << 20} {
		for _, s := range []string{
			strings.Repeat(" ", n), strings.Repeat(",", n), strings.Repeat("1", n), strings.Repeat("x", n), strings.Repeat("\x00", n),
			`"` + strings.Repeat("a", max(n-2, 0)) + `"`, `"` + strings.Repeat("a", max(n-1, 0)), strings.Repeat(`""`, n/2) + strings.Repeat(" ", n%2),
			strings.Repeat(" ", max(n-1, 0)) + "7", strings.Repeat(" ", max(n-1, 0)) + "?", `"` + strings.Repeat(`\`, max(n-2, 0)) + `"`,
			strings.Repeat("\xff", n),
		} {
			check(t, s)
			if _, e, at := lex.All([]byte(s)); (e == api.ErrLong) != (len(s) > 4096) || e == api.ErrLong && at != 0 {
				t.Fatalf("%d bytes: %d at %d", len(s), e, at)
			}
		}
	}
	l, e, _ := lex.All(bytes.Repeat([]byte{'['}, 4096))
	if len(l) != 4096 || e != api.OK || l[4095] != (lex.Token{Kind: lex.Begin, At: 4095}) {
		t.Errorf("%d tokens, %d", len(l), e)
	}
	taken(t, `"`+strings.Repeat("a", 4094)+`"`, text(strings.Repeat("a", 4094)))
	refused(t, strings.Repeat(" ", 4095)+"?", 4095)
}

// P14.1: the three words, with each byte of a word ahead of, behind and in them, and with others than small letters.
func TestWordsThatAreTokens(t *testing.T) {
	for i, w := range []string{"null", "true", "false"} {
		taken(t, w, lex.Token{Kind: lex.Null + i})
		for _, c := range wordBytes {
			refused(t, w+string(c), 0)
			refused(t, string(c)+w, 0)
			refused(t, w+string(c)+w, 0)
		}
		for at := range w {
			refused(t, w[:at]+strings.ToUpper(w[at:at+1])+w[at+1:], 0)
			check(t, w[:at])
			check(t, w[at:])
			check(t, w[:at]+w[at+1:])
			check(t, w[:at]+" "+w[at:])
			for v := range 256 {
				check(t, w[:at]+string([]byte{byte(v)})+w[at+1:])
			}
		}
		for _, other := range []string{"null", "true", "false", "0", "12"} {
			refused(t, w+other, 0)
		}
	}
	for _, s := range []string{"NULL", "Null", "TRUE", "FALSE", "nil", "NaN", "Infinity", "undefined", "n", "t", "f", "e", "_", "+", "-", ".", "--", "a.b", "x_y"} {
		refused(t, s, 0)
	}
}

// P14.1: numbers of one digit and of many, with zeros ahead, with what is no digit in them.
func TestNumbers(t *testing.T) {
	for n := range 20000 {
		s := strconv.Itoa(n)
		taken(t, s, number(n))
		refused(t, "0"+s, 0)
	}
	for _, s := range []string{"-0", "+0", "+1", "-1", "00", "000", "0000000000000000000000001", "09", "0x10", "0b1", "0o7", "1_000", "1e3", "1E3", "1e+3", "1.0", "1.", ".5", "0.0", "1-1", "1+1", "12a", "a12", "1n", "1u", "1_", "_1", "0_"} {
		refused(t, s, 0)
	}
	for _, c := range "abcdefghijklmnopqrstuvwxyzABCDEFGHIJKLMNOPQRSTUVWXYZ_+-." {
		for _, n := range []string{"0", "5", "10", "9223372036854775807"} {
			refused(t, n+string(c), 0)
			refused(t, string(c)+n, 0)
			refused(t, n+string(c)+n, 0)
		}
	}
	for v := range 63 {
		for d := -2; d <= 2; d++ {
			if n := 1<<v + d; n >= 0 {
				taken(t, strconv.Itoa(n), number(n))
			}
		}
	}
	ten := 1
	for range 18 {
		ten *= 10
		taken(t, strconv.Itoa(ten), number(ten))
		taken(t, strconv.Itoa(ten-1), number(ten-1))
	}
}

// P14.1: at and about 2^63 - 1, 2^64 and other powers, where a number that wraps round would come out small.
func TestNumbersAtTheBound(t *testing.T) {
	one := big.NewInt(1)
	most := new(big.Int).Sub(new(big.Int).Lsh(one, 63), one)
	for _, bit := range []uint{62, 63, 64, 65, 66, 80, 96, 127, 128, 129, 192, 256, 1024} {
		for d := int64(-300); d <= 300; d++ {
			v := new(big.Int).Add(new(big.Int).Lsh(one, bit), big.NewInt(d))
			if v.Cmp(most) <= 0 {
				taken(t, v.String(), number(int(v.Int64())))
			} else {
				refused(t, v.String(), 0)
				refused(t, "["+v.String()+"]", 1)
			}
		}
	}
	for first := 1; first <= 9; first++ {
		for n := 1; n <= 100; n++ {
			check(t, strings.Repeat(strconv.Itoa(first), n))
			check(t, strconv.Itoa(first)+strings.Repeat("0", n))
			if n > 18 {
				refused(t, strconv.Itoa(first)+strings.Repeat("0", n), 0)
			}
		}
	}
	for _, n := range []int{1000, 4095, 4096} {
		refused(t, strings.Repeat("9", n), 0)
		refused(t, "1"+strings.Repeat("0", n-1), 0)
		refused(t, strings.Repeat("0", n-1)+"1", 0)
	}
	refused(t, "09223372036854775807", 0)
	refused(t, "-9223372036854775808", 0)
}

// P14.1: strings that do not end, cut at every place.
func TestStringsThatDoNotEnd(t *testing.T) {
	whole := "\"a\u00e9\u20ac\U0001f600 \\\" \\\\ \\/ \\u00e9 \\uFFFD \ufffd\""
	check(t, whole)
	for at := 1; at < len(whole); at++ {
		refused(t, whole[:at], 0)
		refused(t, "[ \"\", "+whole[:at], 6)
	}
	for _, s := range []string{`"`, `"\`, `"\"`, `"\\\"`, `"\u`, `"\u0`, `"\u00`, `"\u004`, `"\u0041`, `"a` + "\n" + `"`, `"a]`} {
		refused(t, s, 0)
	}
	taken(t, `"\\"`, text(`\`))
	taken(t, `"\\\""`, text(`\"`))
	refused(t, `"" "`, 3)
	refused(t, `"""`, 2)
}

// P14.1: every escape alone, behind text and side by side; letters that are none are held by every byte above.
func TestEscapes(t *testing.T) {
	for c, want := range map[string]string{`"`: "\x22", `\`: "\x5c", "/": "\x2f", "b": "\x08", "f": "\x0c", "n": "\x0a", "r": "\x0d", "t": "\x09"} {
		taken(t, `"\`+c+`"`, text(want))
		taken(t, `"a\`+c+`b"`, text("a"+want+"b"))
		taken(t, `"\`+c+`\`+c+`"`, text(want+want))
		taken(t, `"\\`+`\`+c+`"`, text(`\`+want))
		taken(t, "\"\u20ac\\"+c+"\u20ac\"", text("\u20ac"+want+"\u20ac"))
	}
	for _, c := range []string{"B", "F", "N", "R", "T", "U", "a", "v", "x", "0", "'", "\n", " ", "\x00", "\u00e9", "\xff", ""} {
		refused(t, `"\`+c, 0)
		if c != "" {
			refused(t, `"\`+c+`"`, 0)
			refused(t, `"\`+c+`41"`, 0)
			refused(t, `"\`+c+`0041"`, 0)
		}
	}
	taken(t, `"\\u0041"`, text(`\u0041`))
	taken(t, `"/"`, text("/"))
}

// P14.1: every number of four digits, with small and great digits and with both.
func TestEveryNumberedRune(t *testing.T) {
	for v := range 0x10000 {
		small := strconv.FormatInt(int64(v)|1<<20, 16)[2:]
		if len(small) != 4 {
			t.Fatal(small)
		}
		both := strings.ToUpper(small[:2]) + small[2:]
		for _, d := range []string{small, strings.ToUpper(small), both} {
			s := `"\u` + d + `"`
			if v >= 0xD800 && v <= 0xDFFF {
				refused(t, s, 0)
			} else {
				taken(t, s, text(string(rune(v))))
			}
		}
	}
	// The bounds once more, behind and ahead of other runes; pairs of surrogates are none either.
	taken(t, `"\ud7ff\ue000"`, text("\ud7ff\ue000"))
	for _, s := range []string{`"\ud800"`, `"\udfff"`, `"\uD800\uDC00"`, `"\ud83d\ude00"`, `"a\udbff"`, `"\udc00b"`, `"\uDBFF\uDFFF"`} {
		refused(t, s, 0)
	}
	taken(t, `"\u0000\u0022\u005c\u001F"`, text("\x00\"\\\x1f"))
	taken(t, `"\u00411"`, text("A1"))
	taken(t, `"\u0041\u0042"`, text("AB"))
}

// P14.1: a backslash and u with fewer than four digits, and what a library's number might take for one.
func TestTooFewDigits(t *testing.T) {
	for _, d := range []string{"", "1", "12", "123", "g", "000g", "g000", "00g0", " 123", "12 3", "123 ", "+123", "-123", "+001", "0x12", "0X12", "1_23", "_123", "123_", "12.3", "1e+3", "{41}", "\\123", "12\\n", "\u00e912", "\u0660\u0660", "\xff\xff\xff\xff", "\x00\x00\x00\x00", "00\n1", "\uff11\uff11\uff11\uff11"} {
		refused(t, `"\u`+d+`"`, 0)
		refused(t, `"\u`+d, 0)
		refused(t, `"a\u`+d+`"`, 0)
		refused(t, `[ "\u0041" "\u`+d+`" ]`, 11)
	}
	refused(t, `"\U0041"`, 0)
	refused(t, `"\u123"4"`, 0)
}

// strays is bytes that are no UTF-8: too long a form, surrogates, what lies beyond 10FFFF, pieces of a rune, bytes that never stand in a text.
func strays() []string {
	return []string{
		"\x80", "\xbf", "\xc0", "\xc1", "\xc2", "\xdf", "\xe0", "\xed", "\xef", "\xf0", "\xf4", "\xf5", "\xf7", "\xf8", "\xfc", "\xfe", "\xff",
		"\xc0\x80", "\xc0\xaf", "\xc1\xbf", "\xc0\xa2", "\xc1\x9c", "\xe0\x80\x80", "\xe0\x80\xa2", "\xe0\x9f\xbf", "\xf0\x80\x80\x80", "\xf0\x80\x80\xa2", "\xf0\x8f\xbf\xbf",
		"\xed\xa0\x80", "\xed\xad\xbf", "\xed\xae\x80", "\xed\xaf\xbf", "\xed\xb0\x80", "\xed\xbf\xbf", "\xed\xa0\xbd\xed\xb8\x80",
		"\xf4\x90\x80\x80", "\xf4\xbf\xbf\xbf", "\xf5\x80\x80\x80", "\xf7\xbf\xbf\xbf", "\xf8\x88\x80\x80\x80", "\xfc\x84\x80\x80\x80\x80",
		"\xe2\x82", "\xe2\x82a", "\xe2a", "\x82\xac", "\xf0\x9f\x98", "\xf0\x9f", "\x9f\x98\x80", "\xc3\xc3\xa9", "\xc3\xa9\xa9", "\xef\xbf", "\xbf\xbd", "\xef\xbd", "\xef\xbf\xbd\xbd",
	}
}

// fine is runes of 1 to 4 bytes, those at the bounds among them.
func fine() []string {
	return []string{" ", "a", "~", "\x7f", "\u0080", "\u00e9", "\u07ff", "\u0800", "\u20ac", "\ud7ff", "\ue000", "\ufeff", "\ufffd", "\ufffe", "\uffff", "\U00010000", "\U0001f600", "\U000fffff", "\U00100000", "\U0010ffff"}
}

// P14.1, P14.2: runes of 1 to 4 bytes side by side, and what is no UTF-8 at every place among them.
func TestStraysAtEveryPlace(t *testing.T) {
	for _, a := range fine() {
		taken(t, `"`+a+`"`, text(a))
		for _, b := range fine() {
			taken(t, `"`+a+b+a+`"`, text(a+b+a))
		}
	}
	all := strings.Join(fine(), "")
	for _, x := range strays() {
		for at := 0; at <= len(all); at++ {
			// A stray that is a tail of what stands ahead of it may make a rune of it: the words above tell.
			s := all[:at] + x + all[at:]
			check(t, `"`+s+`"`)
			checkQuote(t, s)
		}
		for i := range fine() {
			s := strings.Join(fine()[:i], "") + x + strings.Join(fine()[i:], "")
			refused(t, `"`+s+`"`, 0)
			refused(t, `, "`+s+`"`, 2)
			if q, e := lex.Quote(s); q != "" || e != api.ErrToken {
				t.Fatalf("Quote(%q): %q, %d", s, q, e)
			}
		}
		// Outside of a string none of it is a token; behind one it is a fault of its own.
		refused(t, x, 0)
		refused(t, `"a"`+x, 3)
		refused(t, `null`+x, 4)
		refused(t, `"`+x, 0)
		refused(t, `"a\`+x+`"`, 0)
	}
}

// P14.1, P14.2: every three bytes at the bounds of UTF-8's first bytes, and every four at its longest form's.
func TestBytesAtTheBounds(t *testing.T) {
	heads := []byte{0x7F, 0x80, 0xBF, 0xC0, 0xC1, 0xC2, 0xDF, 0xE0, 0xE1, 0xEC, 0xED, 0xEE, 0xEF, 0xF0, 0xF1, 0xF3, 0xF4, 0xF5, 0xFF}
	tails := []byte{0x00, 0x22, 0x5C, 0x7F, 0x80, 0x81, 0x8F, 0x90, 0x9F, 0xA0, 0xBD, 0xBF, 0xC0, 0xFF}
	for _, a := range heads {
		for second := range 256 {
			for _, c := range tails {
				for _, d := range tails {
					s := string([]byte{a, byte(second), c, d})
					for n := 2; n <= 4; n++ {
						check(t, `"`+s[:n]+`"`)
						checkQuote(t, s[:n])
					}
				}
			}
		}
	}
}

// P14.1: a rune outside of a string begins no token, also one that a library takes for a letter, a digit or a blank.
func TestRunesOutsideOfStrings(t *testing.T) {
	for _, s := range []string{"\u0085", "\u00a0", "\u1680", "\u2003", "\u2028", "\u3000", "\ufeff", "\v", "\f", "\x1c", "\u0660", "\uff11", "\uff41", "\u00e9", "\u212a", "\u017f", "\ufffd", "\U0001d7ce", "/", "//", "/**/", "'a'", "`a`", "(", ")", "=", ";", "#", "*", "@", "$", "~", "\\", "\\n", "<", "|", "&", "%", "^", "!", "?"} {
		refused(t, s, 0)
		refused(t, "1"+s, 1)
		refused(t, "null"+s+"1", 4)
		refused(t, " [\n"+s, 3)
		refused(t, `"\u00e9"`+s, 8)
	}
}

// P14.3: words side by side are one longer word, strings side by side stay two, and all else needs no blank.
func TestSideBySide(t *testing.T) {
	kinds := []string{"{", "}", "[", "]", ":", ",", "null", "true", "false", "0", "12", `""`, `"a"`, `"\\"`, "\"\u20ac\""}
	isWord := func(s string) bool { return strings.Trim(s, wordBytes) == "" }
	for _, a := range kinds {
		for _, b := range kinds {
			check(t, a+b)
			one, _, _ := lex.All([]byte(a))
			two, _, _ := lex.All([]byte(b))
			two[0].At = len(a)
			l, e, _ := lex.All([]byte(a + b))
			if joined := isWord(a) && isWord(b); !joined && (e != api.OK || !slices.Equal(l, append(one, two...))) {
				t.Fatalf("%s%s: %v, %d", a, b, l, e)
			} else if joined && len(l) > 1 {
				t.Fatalf("%s%s: %v", a, b, l)
			}
			for _, c := range kinds {
				check(t, a+b+c)
				check(t, a+" "+b+c)
				check(t, a+b+"\n"+c)
			}
		}
	}
	taken(t, "12", number(12))
	l, e, _ := lex.All([]byte(`1"a""b"2`))
	if want := []lex.Token{{Kind: lex.Number, N: 1}, {Kind: lex.String, At: 1, Text: "a"}, {Kind: lex.String, At: 4, Text: "b"}, {Kind: lex.Number, At: 7, N: 2}}; e != api.OK || !slices.Equal(l, want) {
		t.Errorf("%v, %d", l, e)
	}
}

// P14.1, P3: the first fault is told, where it begins, behind any tokens and blanks and ahead of other faults, with no tokens beside it.
func TestThePlaceOfAFault(t *testing.T) {
	for _, bad := range []string{"a", "01", "-1", "1.5", "nulls", "'", "\x00", "\xff", "\u00e9", "9223372036854775808", `"\x"`, "\"\xff\"", "\"a\n\"", `"\ud800"`, `"abc`, `"`} {
		for _, ahead := range []string{"", " ", "\r\n\t ", "{", "[1,", `"a"`, "\"\u20ac\\u20ac\"", `{"a" : `, "1 ", "null\n", `"" "" ""`, `"\""`, strings.Repeat(" ", 3000), strings.Repeat("[", 3000)} {
			refused(t, ahead+bad, len(ahead))
			if bad[0] != '"' {
				for _, behind := range []string{" ", "]", " a", ",'", "\"", " \xff", "\x00", "{}"} {
					refused(t, ahead+bad+behind, len(ahead))
				}
			}
		}
	}
}

// spread lays pieces one behind the other with blanks about them, and tells where each begins.
func spread(r *rand.Rand, pieces []string) (string, []int) {
	s, at := "", []int{}
	for i, p := range pieces {
		for range r.Intn(4) {
			s += string(" \t\n\r"[r.Intn(4)])
		}
		if i > 0 && s[len(s)-1] > ' ' {
			s += " "
		}
		at = append(at, len(s))
		s += p
	}
	for range r.Intn(4) {
		s += string(" \t\n\r"[r.Intn(4)])
	}
	return s, at
}

// P14.3: blanks ahead of, between and behind tokens change nothing but the places.
func TestBlanksChangePlacesAlone(t *testing.T) {
	r := rand.New(rand.NewSource(1))
	kinds := []string{"{", "}", "[", "]", ":", ",", "null", "true", "false", "0", "98", "9223372036854775807", `""`, `"a b"`, `"\t\u20aC"`, "\"\U0001f600\""}
	for range 5000 {
		pieces := make([]string, r.Intn(12))
		want := []lex.Token{}
		for i := range pieces {
			pieces[i] = kinds[r.Intn(len(kinds))]
			one, _, _ := lex.All([]byte(pieces[i]))
			want = append(want, one...)
		}
		s, at := spread(r, pieces)
		for i := range want {
			want[i].At = at[i]
		}
		check(t, s)
		if l, e, place := lex.All([]byte(s)); !slices.Equal(l, want) || e != api.OK || place != 0 {
			t.Fatalf("%q: %v, %d at %d", s, l, e, place)
		}
	}
	// Every blank at every place of one text: within a word or a string it is no blank between tokens.
	s := `{"a b":[10,null,"\u0041"]}`
	for at := 0; at <= len(s); at++ {
		for _, c := range []string{" ", "\t", "\n", "\r", "\v", "\f", "\x00", "\u00a0", "  ", "\r\n"} {
			check(t, s[:at]+c+s[at:])
		}
	}
}

// quoteOf says what Quote answers as the chapter does.
func quoteOf(s string) (string, api.Errno) {
	if !isText(s) {
		return "", api.ErrToken
	}
	q := `"`
	for i := 0; i < len(s); i++ {
		c := s[i]
		if k := strings.IndexByte("\x22\x5c\x08\x0c\x0a\x0d\x09", c); k >= 0 {
			q += `\` + `"\bfnrt`[k:k+1]
		} else if c < 0x20 {
			q += `\u00` + string('0'+c/16) + "0123456789abcdef"[c%16:c%16+1]
		} else {
			q += s[i : i+1]
		}
	}
	return q + `"`, api.OK
}

// checkQuote holds Quote against the chapter's words, All of it against the text, and a library's reading of it too.
func checkQuote(t *testing.T, s string) {
	t.Helper()
	want, bad := quoteOf(s)
	q, e := lex.Quote(s)
	if q != want || e != bad {
		t.Fatalf("Quote(%q): %q, %d, want %q, %d", s, q, e, want, bad)
	}
	if e != api.OK {
		return
	}
	var back string
	if err := json.Unmarshal([]byte(q), &back); err != nil || back != s {
		t.Fatalf("%q is read as %q, %v", q, back, err)
	}
	if len(q) <= 4096 {
		taken(t, q, text(s))
	} else if l, e, at := lex.All([]byte(q)); len(l) != 0 || e != api.ErrLong || at != 0 {
		t.Fatalf("%d bytes: %v, %d at %d", len(q), l, e, at)
	}
}

// P14.2, P14.3: every rune, alone and between others.
func TestQuoteOfEveryRune(t *testing.T) {
	for v := rune(0); v <= 0x10FFFF; v++ {
		if v >= 0xD800 && v <= 0xDFFF {
			continue
		}
		s := string(v)
		q, e := lex.Quote(s)
		want := `"` + s + `"`
		if v < 0x80 {
			want, _ = quoteOf(s)
		}
		if q != want || e != api.OK {
			t.Fatalf("%x: %q, %d", v, q, e)
		}
		if l, e, _ := lex.All([]byte(q)); e != api.OK || len(l) != 1 || l[0] != text(s) {
			t.Fatalf("%x: %v, %d", v, l, e)
		}
		if v < 0x3000 || v > 0xFF00 && v < 0x10100 || v > 0x10FF00 {
			checkQuote(t, "a"+s+"\u20ac"+s)
		}
	}
}

// P14.2: the runes below 20 and the two marks, as the chapter writes them.
func TestQuoteOfWhatIsEscaped(t *testing.T) {
	for i, want := range []string{
		`\u0000`, `\u0001`, `\u0002`, `\u0003`, `\u0004`, `\u0005`, `\u0006`, `\u0007`, `\b`, `\t`, `\n`, `\u000b`, `\f`, `\r`, `\u000e`, `\u000f`,
		`\u0010`, `\u0011`, `\u0012`, `\u0013`, `\u0014`, `\u0015`, `\u0016`, `\u0017`, `\u0018`, `\u0019`, `\u001a`, `\u001b`, `\u001c`, `\u001d`, `\u001e`, `\u001f`,
		" ", "!", `\"`,
	} {
		if q, e := lex.Quote(string(rune(i))); q != `"`+want+`"` || e != api.OK {
			t.Errorf("%x: %s, %d", i, q, e)
		}
	}
	for s, want := range map[string]string{`\`: `"\\"`, "/": `"/"`, "'": `"'"`, "<&>": `"<&>"`, "\x7f": "\"\x7f\"", "\u2028\u0085": "\"\u2028\u0085\"", `\u0041`: `"\\u0041"`, `\"`: `"\\\""`} {
		if q, e := lex.Quote(s); q != want || e != api.OK {
			t.Errorf("%q: %s, %d", s, q, e)
		}
	}
}

// P14.2: every byte and every two bytes, most of them no UTF-8.
func TestQuoteOfEveryTwoBytes(t *testing.T) {
	for v := range 256 {
		c := string([]byte{byte(v)})
		checkQuote(t, c)
		checkQuote(t, "a"+c)
		checkQuote(t, c+"\u20ac")
		if _, e := lex.Quote(c); (e == api.OK) != (v < 0x80) {
			t.Fatalf("%x: %d", v, e)
		}
		for w := range 256 {
			checkQuote(t, c+string([]byte{byte(w)}))
		}
	}
}

// P14.2, P14.3: texts of any length; Quote has no bound of its own, All of what it answers has.
func TestQuoteOfLongTexts(t *testing.T) {
	for _, n := range []int{0, 1, 682, 683, 1364, 2046, 2047, 2048, 4093, 4094, 4095, 4096, 4097, 10000} {
		for _, c := range []string{"a", "\n", "\x01", "\u20ac", "\U0001f600", `"`} {
			checkQuote(t, strings.Repeat(c, n))
			checkQuote(t, strings.Repeat(c, n)+"\xff")
		}
	}
	taken(t, `"`+strings.Repeat(`\n`, 2047)+`"`, text(strings.Repeat("\n", 2047)))
	for _, s := range []string{strings.Repeat("a", 1<<20), strings.Repeat("\u20ac", 1<<18)} {
		if q, e := lex.Quote(s); q != `"`+s+`"` || e != api.OK {
			t.Errorf("%d bytes: %d bytes, %d", len(s), len(q), e)
		}
		if q, e := lex.Quote(s + "\x80"); q != "" || e != api.ErrToken {
			t.Errorf("%d bytes and one: %d bytes, %d", len(s), len(q), e)
		}
	}
}

// P14.1 to P14.3, P1: anything by chance, most of it of pieces that tokens are made of.
func TestByChance(t *testing.T) {
	r := rand.New(rand.NewSource(2))
	pieces := append(append(strays(), fine()...),
		"{", "}", "[", "]", ":", ",", "null", "true", "false", "0", "1", "12", "-", ".", "e", "+", "_", `"`, `"`, `"`, `"`, `"`, `\`, `\`, `\"`, `\\`, `\/`, `\b`, `\f`, `\n`, `\r`, `\t`, `\u`, `\u0`, `\u00`, `\u0041`, `\uD7fF`, `\ud800`, `u`, "922337203685477580", "7", "8", " ", " ", "\n", "\t", "\r", "\x00", "\x1f", "/", "'")
	right := 0
	for range 300000 {
		s := ""
		for range r.Intn(7) {
			s += pieces[r.Intn(len(pieces))]
		}
		check(t, s)
		check(t, `"`+s+`"`)
		checkQuote(t, s)
		if _, e, _ := lex.All([]byte(`"` + s + `"`)); e == api.OK {
			right++
		}
		b := make([]byte, r.Intn(9))
		for i := range b {
			b[i] = byte(r.Intn(256))
		}
		check(t, string(b))
		check(t, `"`+string(b)+`"`)
		if utf8.Valid(b) != isText(string(b)) {
			t.Fatalf("% x", b)
		}
	}
	if right < 20000 {
		t.Errorf("only %d right ones", right)
	}
}

// P2, P3: what is handed in stays, with the room behind it; what is answered is new memory; the same is answered again.
func TestNothingIsSharedOrChanged(t *testing.T) {
	for _, s := range []string{"", " ", `{"abc":[1,"x\ny",null]}`, `"plain"`, `"a""b"`, "[a", `["abc", "x`, "\"\xff\"", strings.Repeat("x", 4097)} {
		room := []byte(s + "behind\"]}")
		kept := bytes.Clone(room)
		b := room[:len(s)]
		want, bad, place := tokensOf(s)
		one, e, at := lex.All(b)
		two, _, _ := lex.All(b)
		if !bytes.Equal(room, kept) {
			t.Fatalf("%q has become %q", kept, room)
		}
		if !slices.Equal(one, want) || e != bad || at != place {
			t.Fatalf("%q: %v, %d at %d", s, one, e, at)
		}
		for i := range room {
			room[i] = '#'
		}
		if !slices.Equal(one, want) || !slices.Equal(two, want) {
			t.Fatalf("%q: the tokens have become %v and %v", s, one, two)
		}
		for i := range one {
			one[i] = lex.Token{Kind: -1, At: -1, N: -1, Text: "#"}
		}
		one = append(one, lex.Token{Kind: -2})
		if three, e, at := lex.All(kept[:len(s)]); !slices.Equal(two, want) || !slices.Equal(three, want) || e != bad || at != place {
			t.Fatalf("%q the second time: %v, %v, %d at %d", s, two, three, e, at)
		}
	}
	if l, e, at := lex.All(nil); len(l) != 0 || e != api.OK || at != 0 {
		t.Errorf("nil: %v, %d at %d", l, e, at)
	}
	for _, s := range []string{"a\"b", "\xff", ""} {
		one, bad := lex.Quote(s)
		lex.Quote("another\x01text")
		if two, e := lex.Quote(strings.Clone(s)); one != two || e != bad {
			t.Errorf("%q the second time: %q, %q, %d", s, one, two, e)
		}
	}
}
