package json

import (
	"slices"
	"strconv"
	"strings"

	"roundelay/api"
	"roundelay/fault"
	"roundelay/text"
)

// reader is a text, and how many bytes of it are read.
type reader struct {
	s  string
	at int
}

// fail is an error of the byte that comes next.
func (r *reader) fail(code api.Errno) error { return fault.New(code, r.place()) }

// wrong is what is answered for a value if the byte that comes next is wrong.
func (r *reader) wrong(code api.Errno) (api.Value, error) { return api.Value{}, r.fail(code) }

func (r *reader) place() string { return "json, byte " + strconv.Itoa(r.at) }

// peek is the byte that comes next. The 0 at the end is taken for no part of JSON, as a byte 0 is none.
func (r *reader) peek() byte {
	if r.at == len(r.s) {
		return 0
	}
	return r.s[r.at]
}

// take reads a word, if it comes next.
func (r *reader) take(word string) bool {
	if !strings.HasPrefix(r.s[r.at:], word) {
		return false
	}
	r.at += len(word)
	return true
}

// mark is take, with blanks ahead.
func (r *reader) mark(word string) bool {
	r.blanks()
	return r.take(word)
}

func (r *reader) blanks() {
	for {
		switch r.peek() {
		case '\t', '\n', '\r', ' ':
			r.at++
		default:
			return
		}
	}
}

// value reads one that stands so deep. How deep counts ahead of what stands there, if anything does.
func (r *reader) value(depth int) (api.Value, error) {
	r.blanks()
	if depth > api.MaxDepth {
		return r.wrong(api.ErrDeep)
	}
	switch c := r.peek(); {
	case c == '-' || digit(c):
		return r.number()
	case c == '"':
		return r.text()
	case c == '[':
		return r.list(depth)
	case c == '{':
		return r.object(depth)
	}
	return r.word()
}

func (r *reader) word() (api.Value, error) {
	switch {
	case r.take("null"):
		return api.Value{}, nil
	case r.take("false"):
		return api.Value{Kind: api.Bool}, nil
	case r.take("true"):
		return api.Value{Kind: api.Bool, Int: 1}, nil
	}
	return r.wrong(api.ErrForm)
}

func digit(c byte) bool { return c >= '0' && c <= '9' }

func (r *reader) number() (api.Value, error) {
	from := r.at
	r.take("-")
	if !r.digits() {
		return r.wrong(api.ErrForm)
	}
	switch r.peek() {
	case '.', 'e', 'E':
		return r.wrong(api.ErrNumber)
	}
	n, err := strconv.ParseInt(r.s[from:r.at], 10, 64)
	if err != nil {
		return r.wrong(api.ErrNumber)
	}
	return api.Value{Kind: api.Int, Int: n}, nil
}

// digits reads those of a number, and tells whether they may be: there is one, and no 0 ahead of others.
func (r *reader) digits() bool {
	if r.take("0") {
		return !digit(r.peek())
	}
	from := r.at
	for digit(r.peek()) {
		r.at++
	}
	return r.at > from
}

func (r *reader) text() (api.Value, error) {
	s, err := r.quoted()
	if err != nil {
		return api.Value{}, err
	}
	return api.Value{Kind: api.Text, Text: s}, nil
}

func (r *reader) quoted() (string, error) {
	s, n, err := text.Unquote(r.s[r.at:])
	if err != nil {
		return "", fault.Wrap(err, r.place())
	}
	r.at += n
	return s, nil
}

func (r *reader) list(depth int) (api.Value, error) {
	v := api.Value{Kind: api.List}
	r.take("[")
	ends := r.mark("]")
	for !ends {
		x, err := r.value(depth + 1)
		if err != nil {
			return api.Value{}, err
		}
		v.List = append(v.List, x)
		if ends, err = r.ends("]"); err != nil {
			return api.Value{}, err
		}
	}
	return v, nil
}

func (r *reader) object(depth int) (api.Value, error) {
	v := api.Value{Kind: api.Object}
	r.take("{")
	ends := r.mark("}")
	for !ends {
		var err error
		if v.Fields, err = r.field(v.Fields, depth); err != nil {
			return api.Value{}, err
		}
		if ends, err = r.ends("}"); err != nil {
			return api.Value{}, err
		}
	}
	return v, nil
}

// ends reads what stands behind a thing in a list or an object: the end of these, or a comma.
func (r *reader) ends(end string) (bool, error) {
	if r.mark(end) {
		return true, nil
	}
	if r.take(",") {
		return false, nil
	}
	return false, r.fail(api.ErrForm)
}

// field reads one, and puts it among the others so that they rise by name.
func (r *reader) field(others []api.Field, depth int) ([]api.Field, error) {
	r.blanks()
	name, err := r.quoted()
	if err != nil {
		return nil, err
	}
	at, there := slices.BinarySearchFunc(others, name, func(f api.Field, name string) int { return strings.Compare(f.Name, name) })
	if there {
		return nil, r.fail(api.ErrName)
	}
	if !r.mark(":") {
		return nil, r.fail(api.ErrForm)
	}
	v, err := r.value(depth + 1)
	if err != nil {
		return nil, err
	}
	return slices.Insert(others, at, api.Field{Name: name, Value: v}), nil
}
