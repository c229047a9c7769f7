package json

import (
	"slices"

	"assay/api"
	"assay/lex"
)

// Parse is the value of some bytes; with an error where it stands.
func Parse(b []byte) (Value, api.Errno, int) {
	tokens, e, at := lex.All(b)
	if e != api.OK {
		return nil, e, at
	}
	r := reader{left: tokens, end: len(b)}
	v, e := r.value()
	if e == api.OK && len(r.left) > 0 {
		e = api.ErrRest
	}
	if e != api.OK {
		return nil, e, r.next().At
	}
	return v, api.OK, 0
}

// reader goes through tokens. What refuses one leaves it where it is, so that an error stands at the next one.
type reader struct {
	left []lex.Token
	end  int // where the text ends
	open int // how many lists and objects stand open
}

// next is the token that comes next; of no kind, at the end.
func (r *reader) next() lex.Token {
	if len(r.left) == 0 {
		return lex.Token{At: r.end}
	}
	return r.left[0]
}

// take goes beyond the next token, if it is of that kind.
func (r *reader) take(kind int) bool {
	if r.next().Kind != kind {
		return false
	}
	r.left = r.left[1:]
	return true
}

func (r *reader) value() (Value, api.Errno) {
	t := r.next()
	switch t.Kind {
	case lex.Begin:
		return r.list()
	case lex.Open:
		return r.object()
	}
	v, ok := plain(t)
	if !ok {
		return nil, api.ErrSyntax
	}
	r.take(t.Kind)
	return v, api.OK
}

// plain is the value that a token is alone.
func plain(t lex.Token) (Value, bool) {
	switch t.Kind {
	case lex.Null:
		return Null{}, true
	case lex.True:
		return Bool(true), true
	case lex.False:
		return Bool(false), true
	case lex.Number:
		return Num(t.N), true
	case lex.String:
		return Str(t.Text), true
	}
	return nil, false
}

func (r *reader) list() (Value, api.Errno) {
	var l List
	e := r.between(lex.Begin, lex.End, func() api.Errno {
		v, e := r.value()
		l = append(l, v)
		return e
	})
	return l, e
}

func (r *reader) object() (Value, api.Errno) {
	var o Object
	e := r.between(lex.Open, lex.Close, func() api.Errno {
		key, e := r.key(o)
		if e != api.OK {
			return e
		}
		v, e := r.value()
		o.Keys = append(o.Keys, key)
		o.Vals = append(o.Vals, v)
		return e
	})
	return o, e
}

// key is a key that o hasn't yet, with the colon behind it.
func (r *reader) key(o Object) (string, api.Errno) {
	t := r.next()
	if t.Kind != lex.String {
		return "", api.ErrSyntax
	}
	if slices.Contains(o.Keys, t.Text) {
		return "", api.ErrTwice
	}
	r.take(lex.String)
	if !r.take(lex.Colon) {
		return "", api.ErrSyntax
	}
	return t.Text, api.OK
}

// between reads elements with a comma between each two, from the opening token, which comes next, to the closing one.
func (r *reader) between(opening, closing int, element func() api.Errno) api.Errno {
	if r.open == api.MaxDepth {
		return api.ErrDeep
	}
	r.take(opening)
	if r.take(closing) {
		return api.OK
	}
	r.open++
	for {
		if e := element(); e != api.OK {
			return e
		}
		if r.take(closing) {
			r.open--
			return api.OK
		}
		if !r.take(lex.Comma) {
			return api.ErrSyntax
		}
	}
}
