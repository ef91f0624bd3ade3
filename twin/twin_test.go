package twin_test

import (
	"reflect"
	"testing"

	"roundelay/api"
	"roundelay/twin"
)

// sample has each kind, nil and empty lists, and things that a kind does not have.
func sample() api.Value {
	return api.Value{Kind: api.Object, Int: 7, Text: "spare", List: []api.Value{{Kind: api.Int, Int: 1}}, Fields: []api.Field{
		{Name: "bool", Value: api.Value{Kind: api.Bool, Int: 1}},
		{Name: "empty", Value: api.Value{Kind: api.List, List: []api.Value{}}},
		{Name: "list", Value: api.Value{Kind: api.List, List: []api.Value{{Kind: api.Text, Text: "a"}, {Kind: api.List, List: []api.Value{{}}}}}},
		{Name: "null", Value: api.Value{Fields: []api.Field{{Name: "x"}}}},
		{Name: "object", Value: api.Value{Kind: api.Object, Fields: []api.Field{{Name: "y", Value: api.Value{Kind: 9}}}}},
	}}
}

// spoil changes all the memory that a value has.
func spoil(v api.Value) {
	for i := range v.List {
		spoil(v.List[i])
		v.List[i] = api.Value{Kind: -5}
	}
	for i := range v.Fields {
		spoil(v.Fields[i].Value)
		v.Fields[i] = api.Field{Name: "spoilt"}
	}
}

func TestValueIsEqual(t *testing.T) {
	for _, v := range []api.Value{{}, {Kind: api.List, List: []api.Value{}}, {Kind: api.Object, Fields: []api.Field{}}, {Kind: -1, Int: 3}, sample()} {
		if got := twin.Value(v); !reflect.DeepEqual(got, v) {
			t.Errorf("Value(%v) = %v", v, got)
		}
	}
}

func TestValueSharesNothing(t *testing.T) {
	v := sample()
	got := twin.Value(v)
	spoil(v)
	if !reflect.DeepEqual(got, sample()) {
		t.Errorf("the copy changed with what it is of: %v", got)
	}
	v = sample()
	spoil(twin.Value(v))
	if !reflect.DeepEqual(v, sample()) {
		t.Errorf("what was copied changed with the copy: %v", v)
	}
}

func TestListsOfACopyShareNothing(t *testing.T) {
	l := []api.Value{{Kind: api.Int, Int: 1}, {Kind: api.Int, Int: 2}}
	got := twin.Value(api.Value{Kind: api.List, List: []api.Value{{Kind: api.List, List: l[:1]}, {Kind: api.List, List: l}}})
	got.List[0].List = append(got.List[0].List, api.Value{Kind: api.Int, Int: 8})
	got.List[0].List[0].Int = 9
	if !reflect.DeepEqual(got.List[1].List, []api.Value{{Kind: api.Int, Int: 1}, {Kind: api.Int, Int: 2}}) {
		t.Errorf("two lists of one copy share memory: %v", got)
	}
}
