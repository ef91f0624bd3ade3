// Package twin copies plain data whole, so that an answer, or what is kept, shares no memory with what was handed in.
package twin

import (
	"roundelay/api"
)

// Value is a copy of a value, with all that is in it, whether its kind has that or not.
func Value(v api.Value) api.Value {
	v.List = list(v.List)
	v.Fields = fields(v.Fields)
	return v
}

// list stays nil for nil, so that a copy is told from what it is of by nothing but its memory.
func list(l []api.Value) []api.Value {
	if l == nil {
		return nil
	}
	out := make([]api.Value, len(l))
	for i, v := range l {
		out[i] = Value(v)
	}
	return out
}

func fields(l []api.Field) []api.Field {
	if l == nil {
		return nil
	}
	out := make([]api.Field, len(l))
	for i, f := range l {
		out[i] = api.Field{Name: f.Name, Value: Value(f.Value)}
	}
	return out
}
