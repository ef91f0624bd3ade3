package heap_test

import (
	"reflect"
	"slices"
	"testing"

	"roundelay/api"
	"roundelay/heap"
)

// Here it is asked that a heap shares no memory with what it is given, nor with what it tells (W6).

// spoil changes all the memory that a value has, behind its lists' ends, too.
func spoil(v api.Value) {
	for i := range v.List {
		spoil(v.List[i])
	}
	for i := range v.Fields {
		spoil(v.Fields[i].Value)
	}
	l, fs := v.List[:cap(v.List)], v.Fields[:cap(v.Fields)]
	for i := range l {
		l[i] = num(-7)
	}
	for i := range fs {
		fs[i] = field("spoilt", num(-7))
	}
}

// roomy has lists with room behind them, so that what is put there would be seen, and some that its kinds do not have.
func roomy(n int64) api.Value {
	l := append(make([]api.Value, 0, 4), num(n), list(num(n)), api.Value{Fields: []api.Field{field("z", num(n))}})
	fs := append(make([]api.Field, 0, 4), field("a", num(n)), field("b", api.Value{Kind: api.List, List: l}), field("c", obj(field("d", num(n)))))
	return api.Value{Kind: api.Object, Fields: fs, List: []api.Value{list(num(n))}}
}

// whole is a value with the room behind its lists told as if that were in it.
func whole(v api.Value) api.Value {
	v.List, v.Fields = slices.Clone(v.List[:cap(v.List)]), slices.Clone(v.Fields[:cap(v.Fields)])
	for i := range v.List {
		v.List[i] = whole(v.List[i])
	}
	for i := range v.Fields {
		v.Fields[i].Value = whole(v.Fields[i].Value)
	}
	return v
}

// checkWhole tells that v is roomy(n), and has nothing in its room.
func checkWhole(t *testing.T, what string, v api.Value, n int64) {
	t.Helper()
	if !reflect.DeepEqual(whole(v), whole(roomy(n))) {
		t.Errorf("%s was changed: %v", what, whole(v))
	}
}

// checkThree tells that the heap has three records: roomy(1), roomy(2) and roomy(3).
func checkThree(t *testing.T, h *heap.Heap) {
	t.Helper()
	checkHeap(t, h, 3, doc(1, roomy(1)), doc(2, roomy(2)), doc(3, roomy(3)))
}

func three(t *testing.T) *heap.Heap {
	t.Helper()
	h := heap.New()
	for i := int64(1); i <= 3; i++ {
		checkInsert(t, h, roomy(i), i)
	}
	return h
}

func TestWhatWasHandedInIsNotKept(t *testing.T) {
	h := heap.New()
	var handed []api.Value
	for i := int64(1); i <= 3; i++ {
		handed = append(handed, roomy(i), roomy(i))
		checkInsert(t, h, handed[2*i-2], i)
		checkSet(t, h, i, handed[2*i-1])
	}
	for i, v := range handed {
		checkWhole(t, "what was handed in", v, int64(i/2+1))
	}
	for _, v := range handed {
		spoil(v)
	}
	checkThree(t, h)

	inserted := heap.New()
	for i := int64(1); i <= 3; i++ {
		v := roomy(i)
		checkInsert(t, inserted, v, i)
		spoil(v)
	}
	checkThree(t, inserted)
}

func TestWhatWasHandedInIsNotChanged(t *testing.T) {
	h := three(t)
	v, w := roomy(1), roomy(2)
	checkSet(t, h, 1, v)
	checkInsert(t, h, w, 4)
	checkSet(t, h, 1, num(1))
	checkSet(t, h, 4, num(4))
	checkDelete(t, h, 1)
	checkDelete(t, h, 4)
	for range api.MaxRecords {
		h.Insert(roomy(9))
	}
	if _, ok := h.Insert(v); ok || h.Set(4, w) {
		t.Error("more than there may be")
	}
	checkWhole(t, "what was handed in", v, 1)
	checkWhole(t, "what was handed in", w, 2)
}

func TestWhatIsToldIsNewMemory(t *testing.T) {
	h := three(t)
	for i := int64(1); i <= 3; i++ {
		a, _ := h.Get(i)
		b, _ := h.Get(i)
		c, _ := h.Next(i - 1)
		d, _ := h.Next(i - 1)
		told := []api.Value{a, b, c.Value, d.Value}
		for len(told) > 0 {
			spoil(told[0])
			told = told[1:]
			for _, v := range told {
				if !same(v, roomy(i)) {
					t.Errorf("record %d: two answers share memory", i)
				}
			}
			checkThree(t, h)
		}
	}
}

func TestWhatWasToldStaysAsItWas(t *testing.T) {
	h := three(t)
	var told []api.Doc
	for i := int64(1); i <= 3; i++ {
		v, _ := h.Get(i)
		d, _ := h.Next(i - 1)
		told = append(told, doc(i, v), d)
	}
	checkSet(t, h, 1, roomy(8))
	checkDelete(t, h, 2)
	checkInsert(t, h, roomy(9), 4)
	checkSet(t, h, 3, num(3))
	checkDelete(t, h, 3)
	checkInsert(t, h, roomy(7), 5)
	for i, d := range told {
		if want := int64(i/2 + 1); !sameDoc(d, doc(want, roomy(want))) {
			t.Errorf("what was told of record %d is %v now", want, d)
		}
	}
}

func TestRecordsShareNothing(t *testing.T) {
	h := heap.New()
	v := roomy(1)
	checkInsert(t, h, v, 1)
	checkInsert(t, h, v, 2)
	got, _ := h.Get(1)
	checkInsert(t, h, got, 3)
	checkSet(t, h, 2, got)
	checkSet(t, h, 1, got)
	spoil(got)
	spoil(v)
	checkHeap(t, h, 3, doc(1, roomy(1)), doc(2, roomy(1)), doc(3, roomy(1)))
	checkSet(t, h, 2, num(2))
	checkHeap(t, h, 3, doc(1, roomy(1)), doc(2, num(2)), doc(3, roomy(1)))
	checkDelete(t, h, 1)
	checkHeap(t, h, 3, doc(2, num(2)), doc(3, roomy(1)))
}

func TestListsOfAnAnswerShareNothing(t *testing.T) {
	l := list(num(1), num(2))
	h := heap.New()
	checkInsert(t, h, obj(field("a", l), field("b", l)), 1)
	v, _ := h.Get(1)
	d, _ := h.Next(0)
	for _, got := range []api.Value{v, d.Value} {
		spoil(got.Fields[0].Value)
		if !same(got.Fields[1].Value, list(num(1), num(2))) {
			t.Errorf("two lists of one answer share memory: %v", got)
		}
	}
}
