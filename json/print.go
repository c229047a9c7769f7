package json

import (
	"slices"
	"strconv"
	"strings"

	"assay/api"
	"assay/lex"
)

// Print is a value's text.
func Print(v Value) (string, api.Errno) {
	if e := fault(v); e != api.OK {
		return "", e
	}
	var w strings.Builder
	write(&w, v)
	return w.String(), api.OK
}

// fault is why a value has no text, or OK. The order is the chapter's, wherever in the value the faults stand.
func fault(v Value) api.Errno {
	switch {
	case deeper(v, maxNested): // asked first, so that going through the value ends
		return api.ErrDeep
	case holds(v, isFormless):
		return api.ErrForm
	case holds(v, hasStrays):
		return api.ErrToken
	case holds(v, hasTwins):
		return api.ErrTwice
	case deeper(v, api.MaxDepth):
		return api.ErrDeep
	}
	return api.OK
}

// holds tells whether something is said of a value, or of one in it.
func holds(v Value, said func(Value) bool) bool {
	if said(v) {
		return true
	}
	l, _ := parts(v)
	for _, part := range l {
		if holds(part, said) {
			return true
		}
	}
	return false
}

// isFormless tells whether v itself is nothing that has a form.
func isFormless(v Value) bool {
	switch x := v.(type) {
	case Null, Bool, Str, List:
		return false
	case Num:
		return x < 0
	case Object:
		return len(x.Keys) != len(x.Vals)
	}
	return true
}

// hasStrays tells whether v's text, or one of its keys, has bytes that are no UTF-8.
func hasStrays(v Value) bool {
	switch x := v.(type) {
	case Str:
		return isStray(string(x))
	case Object:
		return slices.ContainsFunc(x.Keys, isStray)
	}
	return false
}

func isStray(s string) bool {
	_, e := lex.Quote(s)
	return e != api.OK
}

// hasTwins tells whether v is an object with a key that comes twice.
func hasTwins(v Value) bool {
	switch x := v.(type) {
	case Object:
		keys := slices.Clone(x.Keys)
		slices.Sort(keys)
		return len(slices.Compact(keys)) < len(x.Keys)
	}
	return false
}

// write writes the text of a value in which there is no fault.
func write(w *strings.Builder, v Value) {
	switch x := v.(type) {
	case Null:
		w.WriteString("null")
	case Bool:
		w.WriteString(strconv.FormatBool(bool(x)))
	case Num:
		w.WriteString(strconv.Itoa(int(x)))
	case Str:
		writeText(w, string(x))
	case List:
		writeList(w, x)
	case Object:
		writeObject(w, x)
	}
}

func writeText(w *strings.Builder, s string) {
	q, _ := lex.Quote(s) // hasStrays has asked for its error
	w.WriteString(q)
}

func writeList(w *strings.Builder, l List) {
	w.WriteByte('[')
	for i, v := range l {
		writeComma(w, i)
		write(w, v)
	}
	w.WriteByte(']')
}

func writeObject(w *strings.Builder, o Object) {
	w.WriteByte('{')
	for i, key := range o.Keys {
		writeComma(w, i)
		writeText(w, key)
		w.WriteByte(':')
		write(w, o.Vals[i])
	}
	w.WriteByte('}')
}

// writeComma writes the comma ahead of element i.
func writeComma(w *strings.Builder, i int) {
	if i > 0 {
		w.WriteByte(',')
	}
}
