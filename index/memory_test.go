package index_test

import (
	"reflect"
	"slices"
	"testing"

	"roundelay/api"
	"roundelay/heap"
	"roundelay/index"
	"roundelay/key"
)

// Here it is asked that nothing handed in is changed, and that what is told is new memory (W6).

// paths lead to all that roomy has, to what it does not have, and nowhere.
var paths = []string{"a", "b", "b.0", "b.1", "b.2", "c", "c.d", "c.e", "d", "", "a..b", "a."}

// roomy has lists with room behind them, so that what is put there would be seen, too.
func roomy(n int64) api.Value {
	l := append(make([]api.Value, 0, 4), num(n), list(num(n)))
	inner := append(make([]api.Field, 0, 3), field("d", num(n)))
	fs := append(make([]api.Field, 0, 5), field("a", num(n)), field("b", list(l...)), field("c", obj(inner...)))
	return obj(fs...)
}

// whole is a value with the room behind its lists told as if that were in it.
func whole(v api.Value) api.Value {
	v.List, v.Fields = slices.Clone(v.List[:cap(v.List)]), slices.Clone(v.Fields[:cap(v.Fields)])
	for i := range v.List {
		v.List[i] = whole(v.List[i])
	}
	for i := range v.Fields {
		v.Fields[i].Value = whole(v.Fields[i].Value)
	}
	return v
}

// docsOf are the records of a heap.
func docsOf(h *heap.Heap) []api.Doc {
	var out []api.Doc
	for d, ok := h.Next(0); ok; d, ok = h.Next(d.ID) {
		out = append(out, d)
	}
	return out
}

func TestKeyChangesNothingOfAValue(t *testing.T) {
	v := roomy(3)
	for _, p := range paths {
		for _, s := range both("i", p) {
			index.Key(s, v)
		}
		if !reflect.DeepEqual(whole(v), whole(roomy(3))) {
			t.Fatalf("by %q the value was changed: %v", p, whole(v))
		}
	}
}

func TestKeyStaysWhenTheValueChanges(t *testing.T) {
	v := obj(field("a", list(txt("b"))))
	k, ok := index.Key(by("a"), v)
	v.Fields[0].Value.List[0] = txt("c")
	if k != "\x05\x04b\x00\x01\x00" || !ok {
		t.Errorf("Key = %q, %t", k, ok)
	}
	checkKey(t, v, "a", "\x05\x04c\x00\x01\x00")
}

func TestOfChangesNothingOfAHeap(t *testing.T) {
	h := heapOf(t, roomy(1), roomy(2), num(5), roomy(1))
	h.Delete(2)
	was := docsOf(h)
	for _, p := range paths {
		for _, s := range both("i", p) {
			index.Of(s, h)
		}
		if !reflect.DeepEqual(docsOf(h), was) || h.Len() != 3 || h.Last() != 4 {
			t.Fatalf("by %q the heap was changed: %v, %d, %d", p, docsOf(h), h.Len(), h.Last())
		}
	}
	if id, ok := h.Insert(num(1)); id != 5 || !ok {
		t.Errorf("Insert = %d, %t", id, ok)
	}
}

// spoil changes all the memory that a list has, behind its end, too.
func spoil(l []api.Entry) {
	l = l[:cap(l)]
	for i := range l {
		l[i] = entry("spoilt", -7)
	}
}

func TestWhatOfTellsMayBeChanged(t *testing.T) {
	h := heapOf(t, roomy(2), roomy(1), num(5), roomy(2), roomy(3))
	was := docsOf(h)
	want := []api.Entry{entry(k(1), 2), entry(k(2), 1), entry(k(2), 4), entry(k(3), 5)}
	for range 3 {
		first, second := index.Of(by("a"), h), index.Of(by("a"), h)
		spoil(first)
		if !slices.Equal(second, want) {
			t.Errorf("two answers share memory: %s", show(second...))
		}
		checkOf(t, h, "a", want...)
		checkOf(t, h, "b.1", entry(key.Put(list(num(1))), 2), entry(key.Put(list(num(2))), 1), entry(key.Put(list(num(2))), 4), entry(key.Put(list(num(3))), 5))
	}
	if !reflect.DeepEqual(docsOf(h), was) {
		t.Errorf("the heap was changed: %v", docsOf(h))
	}
}

func TestWhatOfToldStaysAsItWas(t *testing.T) {
	h := heapOf(t, roomy(2), roomy(1), roomy(3))
	told := index.Of(by("a"), h)
	h.Set(1, roomy(9))
	h.Delete(2)
	h.Insert(roomy(0))
	if want := []api.Entry{entry(k(1), 2), entry(k(2), 1), entry(k(3), 3)}; !slices.Equal(told, want) {
		t.Errorf("what was told is %s now", show(told...))
	}
	checkOf(t, h, "a", entry(k(0), 4), entry(k(3), 3), entry(k(9), 1))
}

func TestOfKeepsHeapsApart(t *testing.T) {
	a, b := heapOf(t, roomy(1), roomy(2)), heapOf(t, roomy(4), roomy(3))
	for range 2 {
		checkOf(t, a, "a", entry(k(1), 1), entry(k(2), 2))
		checkOf(t, b, "a", entry(k(3), 2), entry(k(4), 1))
	}
	a.Delete(1)
	checkOf(t, a, "a", entry(k(2), 2))
	checkOf(t, b, "a", entry(k(3), 2), entry(k(4), 1))
}

func TestClashChangesNothingOfAList(t *testing.T) {
	for _, l := range [][]api.Entry{nil, {}, {entry("a", 1)}, {entry("b", 2), entry("a", 1)}, {entry("c", 3), entry("a", 2), entry("a", 1), entry("c", 0)}, {entry("b", 1), entry("b", 1), entry("a", 1)}, many(20, 3, 9), many(20)} {
		l = append(slices.Grow(l, 5), entry("y", 1), entry("y", 2))
		was := slices.Clone(l[:cap(l)])
		for n := range l {
			index.Clash(l[:n])
		}
		if !slices.Equal(l[:cap(l)], was) {
			t.Errorf("%s was changed: %s", show(was...), show(l[:cap(l)]...))
		}
	}
}

func TestClashDoesNotLookPastTheList(t *testing.T) {
	l := []api.Entry{entry("a", 1), entry("a", 2), entry("b", 3), entry("b", 4)}
	checkNoClash(t, l[:0]...)
	checkNoClash(t, l[:1]...)
	checkNoClash(t, l[1:3]...)
	checkNoClash(t, l[3:]...)
	checkClash(t, entry("b", 4), l[1:]...)
}
