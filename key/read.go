package key

import (
	"roundelay/api"
)

// reader is what is left of a key.
type reader struct {
	left string
}

func (r *reader) next() (byte, bool) {
	if r.left == "" {
		return 0, false
	}
	c := r.left[0]
	r.left = r.left[1:]
	return c, true
}

// take reads a byte, if it comes next.
func (r *reader) take(c byte) bool {
	if r.left == "" || r.left[0] != c {
		return false
	}
	r.left = r.left[1:]
	return true
}

// value reads one that stands so deep. Whether it is Valid, its kind too, is not looked at here. How deep it stands is, so that a long key of nothing but beginnings is given up soon.
func (r *reader) value(depth int) (api.Value, bool) {
	c, ok := r.next()
	if !ok || depth > api.MaxDepth {
		return api.Value{}, false
	}
	v := api.Value{Kind: api.Kind(c) - firstKind}
	switch v.Kind {
	case api.Bool:
		v.Int, ok = r.number(1)
	case api.Int:
		v.Int, ok = r.number(intBytes)
		v.Int = turned(v.Int)
	case api.Text:
		v.Text, ok = r.text()
	case api.List:
		v.List, ok = r.list(depth + 1)
	case api.Object:
		v.Fields, ok = r.fields(depth + 1)
	}
	return v, ok
}

// number reads one of so many bytes, the highest first.
func (r *reader) number(bytes int) (int64, bool) {
	var bits uint64
	for range bytes {
		c, ok := r.next()
		if !ok {
			return 0, false
		}
		bits = bits<<8 | uint64(c)
	}
	return int64(bits), true
}

func (r *reader) text() (string, bool) {
	var out []byte
	for {
		c, ok := r.next()
		if !ok {
			return "", false
		}
		if c == zero {
			if r.take(shut) {
				return string(out), true
			}
			if !r.take(stays) {
				return "", false
			}
		}
		out = append(out, c)
	}
}

func (r *reader) list(depth int) ([]api.Value, bool) {
	var out []api.Value
	for !r.take(end) {
		v, ok := r.value(depth)
		if !ok {
			return nil, false
		}
		out = append(out, v)
	}
	return out, true
}

func (r *reader) fields(depth int) ([]api.Field, bool) {
	var out []api.Field
	for !r.take(end) {
		f, ok := r.field(depth)
		if !ok {
			return nil, false
		}
		out = append(out, f)
	}
	return out, true
}

func (r *reader) field(depth int) (api.Field, bool) {
	if !r.take(again) {
		return api.Field{}, false
	}
	name, ok := r.text()
	if !ok {
		return api.Field{}, false
	}
	v, ok := r.value(depth)
	return api.Field{Name: name, Value: v}, ok
}
