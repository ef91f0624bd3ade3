package heap_test

import (
	"maps"
	"math/rand"
	"reflect"
	"slices"
	"strconv"
	"testing"

	"roundelay/api"
	"roundelay/heap"
)

// Here a heap is held against a plain map, call by call.

// model is such a map, and the number given last.
type model struct {
	docs map[int64]api.Value
	last int64
}

func (m *model) insert(v api.Value) (int64, bool) {
	if len(m.docs) == 500 {
		return 0, false
	}
	m.last++
	m.docs[m.last] = v
	return m.last, true
}

// all are the records, by number.
func (m *model) all() []api.Doc {
	var out []api.Doc
	for _, id := range slices.Sorted(maps.Keys(m.docs)) {
		out = append(out, doc(id, m.docs[id]))
	}
	return out
}

// next looks at all records, and keeps the best one.
func (m *model) next(after int64) (api.Doc, bool) {
	var best api.Doc
	found := false
	for id, v := range m.docs {
		if id > after && (!found || id < best.ID) {
			best, found = doc(id, v), true
		}
	}
	return best, found
}

// pair is a heap, its model, and how often each answer came.
type pair struct {
	t    *testing.T
	r    *rand.Rand
	h    *heap.Heap
	m    *model
	seen map[string]int
}

func (p *pair) count(what string, ok bool) { p.seen[what+" "+strconv.FormatBool(ok)]++ }

// anyValue is one that no other call has.
func (p *pair) anyValue() api.Value { return roomy(p.r.Int63()) }

// anyID is that of a record as often as not; else one given long ago, or lately, or never.
func (p *pair) anyID() int64 {
	if there := p.m.all(); len(there) > 0 && p.r.Intn(2) == 0 {
		return there[p.r.Intn(len(there))].ID
	}
	switch p.r.Intn(3) {
	case 0:
		return p.r.Int63n(p.m.last+3) - 1
	case 1:
		return int64(p.r.Uint64()) >> p.r.Intn(64)
	}
	return p.m.last + 2 - p.r.Int63n(5)
}

func (p *pair) insert() {
	v := p.anyValue()
	want, room := p.m.insert(v)
	id, ok := p.h.Insert(v)
	p.count("insert", room)
	if id != want || ok != room {
		p.t.Fatalf("Insert = %d, %t; want %d, %t", id, ok, want, room)
	}
}

func (p *pair) set() {
	id, v := p.anyID(), p.anyValue()
	_, there := p.m.docs[id]
	if there {
		p.m.docs[id] = v
	}
	p.count("set", there)
	if ok := p.h.Set(id, v); ok != there {
		p.t.Fatalf("Set(%d) = %t", id, ok)
	}
}

func (p *pair) drop() {
	id := p.anyID()
	_, there := p.m.docs[id]
	delete(p.m.docs, id)
	p.count("delete", there)
	if ok := p.h.Delete(id); ok != there {
		p.t.Fatalf("Delete(%d) = %t", id, ok)
	}
}

func (p *pair) look() {
	id := p.anyID()
	want, there := p.m.docs[id]
	v, ok := p.h.Get(id)
	p.count("get", there)
	if ok != there || !same(v, want) {
		p.t.Fatalf("Get(%d) = %v, %t; want %v, %t", id, v, ok, want, there)
	}
	next, more := p.m.next(id)
	d, ok := p.h.Next(id)
	p.count("next", more)
	if ok != more || !sameDoc(d, next) || !ok && !reflect.DeepEqual(d, api.Doc{}) {
		p.t.Fatalf("Next(%d) = %v, %t; want %v, %t", id, d, ok, next, more)
	}
	if p.h.Len() != len(p.m.docs) || p.h.Last() != p.m.last {
		p.t.Fatalf("Len = %d, Last = %d; want %d, %d", p.h.Len(), p.h.Last(), len(p.m.docs), p.m.last)
	}
}

// step does one thing, which is an insert more often, if the heap is to grow, and a delete, if not.
func (p *pair) step(grow bool) {
	switch kind := p.r.Intn(10); {
	case kind < 1, grow && kind < 5:
		p.insert()
	case kind < 6:
		p.drop()
	case kind < 8:
		p.set()
	default:
		p.look()
	}
}

func TestAgainstAMap(t *testing.T) {
	p := &pair{t: t, r: rand.New(rand.NewSource(7)), h: heap.New(), m: &model{docs: map[int64]api.Value{}}, seen: map[string]int{}}
	full, empty := 0, 0
	for i := range 60000 {
		p.step(i/3000%2 == 0)
		if i%500 == 0 {
			checkHeap(t, p.h, p.m.last, p.m.all()...)
		}
		if len(p.m.docs) == 500 {
			full++
		}
		if len(p.m.docs) == 0 {
			empty++
		}
	}
	for _, what := range []string{"insert", "set", "delete", "get", "next"} {
		if p.seen[what+" true"] < 1000 || p.seen[what+" false"] < 500 {
			t.Errorf("too few of one answer: %v", p.seen)
		}
	}
	if full < 100 || empty < 10 {
		t.Errorf("the heap was full %d times, and empty %d times", full, empty)
	}
}
