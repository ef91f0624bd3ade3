package heap_test

import (
	"math"
	"reflect"
	"slices"
	"testing"

	"roundelay/api"
	"roundelay/heap"
)

func num(n int64) api.Value { return api.Value{Kind: api.Int, Int: n} }

func list(vs ...api.Value) api.Value { return api.Value{Kind: api.List, List: vs} }

func obj(fs ...api.Field) api.Value { return api.Value{Kind: api.Object, Fields: fs} }

func field(name string, v api.Value) api.Field { return api.Field{Name: name, Value: v} }

func doc(id int64, v api.Value) api.Doc { return api.Doc{ID: id, Value: v} }

// same tells whether two values are alike in all that they have, whether their kinds have it or not.
func same(a, b api.Value) bool {
	return a.Kind == b.Kind && a.Int == b.Int && a.Text == b.Text &&
		slices.EqualFunc(a.List, b.List, same) &&
		slices.EqualFunc(a.Fields, b.Fields, func(f, g api.Field) bool { return f.Name == g.Name && same(f.Value, g.Value) })
}

func sameDoc(a, b api.Doc) bool { return a.ID == b.ID && same(a.Value, b.Value) }

func checkInsert(t *testing.T, h *heap.Heap, v api.Value, want int64) {
	t.Helper()
	if id, ok := h.Insert(v); id != want || !ok {
		t.Errorf("Insert = %d, %t; want %d", id, ok, want)
	}
}

// checkNoRoom tells that there is none, and that nothing comes of asking.
func checkNoRoom(t *testing.T, h *heap.Heap) {
	t.Helper()
	docs, last := docsOf(h), h.Last()
	for range 2 {
		if id, ok := h.Insert(num(-1)); id != 0 || ok {
			t.Errorf("Insert = %d, %t; want no room", id, ok)
		}
	}
	checkHeap(t, h, last, docs...)
}

func checkGet(t *testing.T, h *heap.Heap, id int64, want api.Value) {
	t.Helper()
	if v, ok := h.Get(id); !ok || !same(v, want) {
		t.Errorf("Get(%d) = %v, %t; want %v", id, v, ok, want)
	}
}

func checkSet(t *testing.T, h *heap.Heap, id int64, v api.Value) {
	t.Helper()
	if !h.Set(id, v) {
		t.Errorf("Set(%d) = false", id)
	}
	checkGet(t, h, id, v)
}

func checkDelete(t *testing.T, h *heap.Heap, id int64) {
	t.Helper()
	if !h.Delete(id) {
		t.Errorf("Delete(%d) = false", id)
	}
	checkNone(t, h, id)
}

// checkNone tells that there is no record of that number, and that nothing comes of asking for it.
func checkNone(t *testing.T, h *heap.Heap, id int64) {
	t.Helper()
	docs, last := docsOf(h), h.Last()
	for range 2 {
		if v, ok := h.Get(id); ok || !reflect.DeepEqual(v, api.Value{}) {
			t.Errorf("Get(%d) = %v, %t; want none", id, v, ok)
		}
		if h.Set(id, num(-1)) {
			t.Errorf("Set(%d) = true; want none", id)
		}
		if h.Delete(id) {
			t.Errorf("Delete(%d) = true; want none", id)
		}
	}
	checkHeap(t, h, last, docs...)
}

func checkNext(t *testing.T, h *heap.Heap, after int64, want api.Doc) {
	t.Helper()
	for range 2 {
		if d, ok := h.Next(after); !ok || !sameDoc(d, want) {
			t.Errorf("Next(%d) = %v, %t; want %v", after, d, ok, want)
		}
	}
}

func checkNoNext(t *testing.T, h *heap.Heap, after int64) {
	t.Helper()
	for range 2 {
		if d, ok := h.Next(after); ok || !reflect.DeepEqual(d, api.Doc{}) {
			t.Errorf("Next(%d) = %v, %t; want none", after, d, ok)
		}
	}
}

// docsOf are the records that Next tells, one behind the other; a few more than there may be, if it goes round.
func docsOf(h *heap.Heap) []api.Doc {
	var out []api.Doc
	after := int64(math.MinInt64)
	for range api.MaxRecords + 2 {
		d, ok := h.Next(after)
		if !ok {
			break
		}
		out = append(out, d)
		after = d.ID
	}
	return out
}

// checkHeap holds all that a heap tells of itself against the records that it should have.
func checkHeap(t *testing.T, h *heap.Heap, last int64, want ...api.Doc) {
	t.Helper()
	if h.Len() != len(want) || h.Last() != last {
		t.Errorf("Len = %d, Last = %d; want %d, %d", h.Len(), h.Last(), len(want), last)
	}
	if got := docsOf(h); !slices.EqualFunc(got, want, sameDoc) {
		t.Errorf("Next tells %v; want %v", got, want)
	}
	for _, d := range want {
		checkGet(t, h, d.ID, d.Value)
	}
}

// heapOf has so many records, 1 and so on, each with ten times its number.
func heapOf(t *testing.T, n int64) *heap.Heap {
	t.Helper()
	h := heap.New()
	for i := int64(1); i <= n; i++ {
		checkInsert(t, h, num(10*i), i)
	}
	return h
}

// tens are the records of heapOf from one number to another one.
func tens(from, to int64) []api.Doc {
	var out []api.Doc
	for i := from; i <= to; i++ {
		out = append(out, doc(i, num(10*i)))
	}
	return out
}

// P7.1

func TestNew(t *testing.T) {
	h := heap.New()
	if h == nil {
		t.Fatal("New is nil")
	}
	checkHeap(t, h, 0)
	checkInsert(t, h, num(5), 1)
	checkHeap(t, h, 1, doc(1, num(5)))
}

func TestHeapsStandByThemselves(t *testing.T) {
	a, b := heap.New(), heap.New()
	checkInsert(t, a, num(1), 1)
	checkInsert(t, a, num(2), 2)
	checkHeap(t, b, 0)
	checkInsert(t, b, num(3), 1)
	checkDelete(t, b, 1)
	checkHeap(t, a, 2, doc(1, num(1)), doc(2, num(2)))
	checkHeap(t, heap.New(), 0)
}

func TestInsert(t *testing.T) {
	h := heap.New()
	for i := int64(1); i <= 20; i++ {
		checkInsert(t, h, num(10*i), i)
		checkHeap(t, h, i, tens(1, i)...)
	}
}

func TestInsertBehindDelete(t *testing.T) {
	h := heapOf(t, 2)
	checkDelete(t, h, 1)
	checkHeap(t, h, 2, doc(2, num(20)))
	checkInsert(t, h, num(30), 3)
	checkHeap(t, h, 3, doc(2, num(20)), doc(3, num(30)))
	checkNext(t, h, 0, doc(2, num(20)))
}

func TestNumbersAreNotGivenAgain(t *testing.T) {
	for _, gone := range [][]int64{{1}, {2}, {3}, {3, 2}, {2, 3}, {1, 3}, {1, 2, 3}, {3, 2, 1}} {
		h := heapOf(t, 3)
		for _, id := range gone {
			checkDelete(t, h, id)
		}
		if h.Last() != 3 || h.Len() != 3-len(gone) {
			t.Errorf("Last = %d, Len = %d behind Delete of %v", h.Last(), h.Len(), gone)
		}
		checkInsert(t, h, num(40), 4)
		checkInsert(t, h, num(50), 5)
		for _, id := range gone {
			checkNone(t, h, id)
		}
		checkNext(t, h, 3, doc(4, num(40)))
	}
}

func TestOneInOneOut(t *testing.T) {
	h := heap.New()
	for i := int64(1); i <= 2000; i++ {
		checkInsert(t, h, num(i), i)
		checkDelete(t, h, i)
		checkHeap(t, h, i)
	}
}

func TestRoom(t *testing.T) {
	h := heapOf(t, 499)
	checkHeap(t, h, 499, tens(1, 499)...)
	checkInsert(t, h, num(5000), 500)
	checkNoRoom(t, h)
	checkHeap(t, h, 500, tens(1, 500)...)
}

func TestRoomBehindDelete(t *testing.T) {
	for _, gone := range []int64{1, 2, 250, 499, 500} {
		h := heapOf(t, 500)
		checkNoRoom(t, h)
		checkDelete(t, h, gone)
		checkHeap(t, h, 500, append(tens(1, gone-1), tens(gone+1, 500)...)...)
		checkInsert(t, h, num(5010), 501)
		checkNoRoom(t, h)
		checkHeap(t, h, 501, append(tens(1, gone-1), tens(gone+1, 501)...)...)
		checkDelete(t, h, 501)
		checkInsert(t, h, num(5020), 502)
		checkNoRoom(t, h)
		checkNone(t, h, 501)
	}
}

func TestRoomBehindDeleteOfAll(t *testing.T) {
	h := heapOf(t, 500)
	for i := int64(500); i >= 1; i-- {
		checkDelete(t, h, i)
	}
	checkHeap(t, h, 500)
	for i := int64(501); i <= 1000; i++ {
		checkInsert(t, h, num(10*i), i)
	}
	checkNoRoom(t, h)
	checkHeap(t, h, 1000, tens(501, 1000)...)
}

func TestNoRoomIsMadeByWhatChangesNothing(t *testing.T) {
	h := heapOf(t, 500)
	for _, id := range []int64{0, -1, 501, math.MinInt64, math.MaxInt64} {
		checkNone(t, h, id)
		checkNoRoom(t, h)
	}
	checkSet(t, h, 7, num(70))
	checkSet(t, h, 8, api.Value{})
	checkSet(t, h, 8, num(80))
	checkNoRoom(t, h)
	checkHeap(t, h, 500, tens(1, 500)...)
}

// P7.2

func TestGetSetAndDelete(t *testing.T) {
	for _, n := range []int64{1, 2, 3, 4, 5, 16, 17, 499, 500} {
		for _, id := range []int64{1, 2, (n + 1) / 2, n - 1, n} {
			if id < 1 || id > n {
				continue
			}
			h := heapOf(t, n)
			checkGet(t, h, id, num(10*id))
			checkSet(t, h, id, num(-id))
			checkSet(t, h, id, num(-id))
			checkHeap(t, h, n, slices.Concat(tens(1, id-1), []api.Doc{doc(id, num(-id))}, tens(id+1, n))...)
			checkDelete(t, h, id)
			checkHeap(t, h, n, append(tens(1, id-1), tens(id+1, n)...)...)
		}
	}
}

func TestGetSetAndDeleteBetweenGaps(t *testing.T) {
	h := heapOf(t, 9)
	for _, id := range []int64{1, 3, 4, 8} {
		checkDelete(t, h, id)
	}
	for _, id := range []int64{2, 5, 6, 7, 9} {
		checkGet(t, h, id, num(10*id))
		checkSet(t, h, id, num(id))
	}
	checkHeap(t, h, 9, doc(2, num(2)), doc(5, num(5)), doc(6, num(6)), doc(7, num(7)), doc(9, num(9)))
	for _, id := range []int64{6, 9, 2} {
		checkDelete(t, h, id)
	}
	checkHeap(t, h, 9, doc(5, num(5)), doc(7, num(7)))
}

// never are numbers that no heap here has given.
var never = []int64{0, -1, -2, -3, -499, -500, 501, 502, 1 << 31, 1<<31 + 1, 1 << 32, 1<<32 + 1, 1<<32 + 3, -1 << 31, -1<<32 + 1, -1 << 32, math.MaxInt64, math.MaxInt64 - 1, math.MinInt64, math.MinInt64 + 1, math.MinInt64 + 3}

func TestGetSetAndDeleteOfNone(t *testing.T) {
	for _, n := range []int64{0, 1, 2, 3, 500} {
		for _, id := range append(slices.Clone(never), n+1, n+2) {
			h := heapOf(t, n)
			checkNone(t, h, id)
			checkHeap(t, h, n, tens(1, n)...)
		}
	}
}

func TestGetSetAndDeleteOfOneDeleted(t *testing.T) {
	for _, n := range []int64{1, 2, 3, 8, 500} {
		for _, id := range []int64{1, (n + 1) / 2, n} {
			h := heapOf(t, n)
			checkDelete(t, h, id)
			checkNone(t, h, id)
			checkInsert(t, h, num(10*n+10), n+1)
			checkNone(t, h, id)
			checkHeap(t, h, n+1, append(tens(1, id-1), tens(id+1, n+1)...)...)
		}
	}
}

func TestNextOfNone(t *testing.T) {
	emptied := heapOf(t, 3)
	for _, id := range []int64{2, 1, 3} {
		checkDelete(t, emptied, id)
	}
	for _, h := range []*heap.Heap{heap.New(), emptied} {
		for _, after := range append(slices.Clone(never), 1, 2, 3, 4) {
			checkNoNext(t, h, after)
		}
	}
}

func TestNext(t *testing.T) {
	h := heapOf(t, 7)
	for _, id := range []int64{1, 4, 5, 7} {
		checkDelete(t, h, id)
	}
	for after, want := range map[int64]int64{0: 2, 1: 2, 2: 3, 3: 6, 4: 6, 5: 6, -1: 2, -2: 2, -500: 2, -1 << 32: 2, 3 - 1<<32: 2, math.MinInt64: 2, math.MinInt64 + 3: 2} {
		checkNext(t, h, after, doc(want, num(10*want)))
	}
	for _, after := range []int64{6, 7, 8, 9, 501, 1 << 32, 1<<32 + 2, math.MaxInt64 - 1, math.MaxInt64} {
		checkNoNext(t, h, after)
	}
	checkInsert(t, h, num(80), 8)
	checkNext(t, h, 6, doc(8, num(80)))
	checkNext(t, h, 7, doc(8, num(80)))
	checkNoNext(t, h, 8)
	checkHeap(t, h, 8, doc(2, num(20)), doc(3, num(30)), doc(6, num(60)), doc(8, num(80)))
}

func TestNextOfMany(t *testing.T) {
	h := heapOf(t, 500)
	for i := int64(0); i < 500; i++ {
		checkNext(t, h, i, doc(i+1, num(10*i+10)))
	}
	checkNoNext(t, h, 500)
	checkSet(t, h, 300, num(1))
	checkNext(t, h, 299, doc(300, num(1)))
	checkDelete(t, h, 500)
	checkNoNext(t, h, 499)
}

func TestNextIsNotHeldUpByWhatIsDeletedOnTheWay(t *testing.T) {
	h := heapOf(t, 500)
	after, seen := int64(0), int64(0)
	for {
		d, ok := h.Next(after)
		if !ok {
			break
		}
		seen++
		if d.ID != seen {
			t.Fatalf("Next(%d) is record %d", after, d.ID)
		}
		checkDelete(t, h, d.ID)
		after = d.ID
	}
	checkHeap(t, h, 500)
	if seen != 500 {
		t.Errorf("%d records were told", seen)
	}
}

// odd are values of all kinds, and some that are not Valid: a record is what was handed in, whatever that is.
func odd() []api.Value {
	return []api.Value{
		{},
		{Kind: api.Bool},
		{Kind: api.Bool, Int: 1},
		num(math.MinInt64),
		{Kind: api.Text, Text: "\x00é"},
		{Kind: api.Text, Text: "\xff"},
		list(),
		list(list(), api.Value{}, num(1)),
		obj(),
		obj(field("a", list(obj(field("b", num(2)))))),
		obj(field("b", num(1)), field("a", num(2)), field("a", num(3)), field("\xff", api.Value{})),
		{Kind: -1, Int: 4},
		{Kind: 6, Text: "x"},
		{Kind: api.Null, Int: 5, Text: "spare", List: []api.Value{num(6)}, Fields: []api.Field{field("c", num(7))}},
		{Kind: api.Object, List: []api.Value{num(8)}},
	}
}

func TestRecordsAreWhatWasHandedIn(t *testing.T) {
	h := heap.New()
	var want []api.Doc
	for i, v := range odd() {
		checkInsert(t, h, v, int64(i+1))
		want = append(want, doc(int64(i+1), v))
	}
	last := h.Last()
	checkHeap(t, h, last, want...)
	for _, v := range odd() {
		for i := range want {
			checkSet(t, h, want[i].ID, v)
			want[i].Value = v
		}
		checkHeap(t, h, last, want...)
	}
}

// deep is a value that stands as deep as is promised.
func deep() api.Value {
	v := num(1)
	for i := range 99 {
		if i%2 == 0 {
			v = list(v)
		} else {
			v = obj(field("a", v))
		}
	}
	return v
}

func TestDeepRecords(t *testing.T) {
	h := heap.New()
	checkInsert(t, h, deep(), 1)
	checkHeap(t, h, 1, doc(1, deep()))
	checkSet(t, h, 1, list(num(2)))
	checkSet(t, h, 1, deep())
	checkHeap(t, h, 1, doc(1, deep()))
}
