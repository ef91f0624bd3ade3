package clock

import (
	"container/heap"
	"maps"
	"slices"
)

// slot has the ids of one deadline.
type slot struct {
	at    int
	ids   map[int64]struct{}
	place int // in the line, so that it need not be looked for to be taken out
}

// slot is that of a deadline; it is made, if there is none.
func (w *Wheel) slot(at int) *slot {
	s, ok := w.slots[at]
	if !ok {
		s = &slot{at: at, ids: map[int64]struct{}{}}
		w.slots[at] = s
		heap.Push(&w.line, s)
	}
	return s
}

// drop takes a slot out.
func (w *Wheel) drop(s *slot) {
	delete(w.slots, s.at)
	heap.Remove(&w.line, s.place)
}

// empty takes a slot out with all that is in it, and tells its ids: a map has no order, so they are sorted.
func (w *Wheel) empty(s *slot) []int64 {
	w.drop(s)
	ids := slices.Sorted(maps.Keys(s.ids))
	for _, id := range ids {
		delete(w.at, id)
	}
	return ids
}

// line is the slots as a heap of the library: the one of the least deadline stands first.
type line []*slot

func (l line) Len() int           { return len(l) }
func (l line) Less(i, j int) bool { return l[i].at < l[j].at }

func (l line) Swap(i, j int) {
	l[i], l[j] = l[j], l[i]
	l[i].place, l[j].place = i, j
}

// Push puts a slot at the end.
func (l *line) Push(x any) {
	s := x.(*slot)
	s.place = len(*l)
	*l = append(*l, s)
}

// Pop takes the last slot away, and keeps nothing of it.
func (l *line) Pop() any {
	last := len(*l) - 1
	s := (*l)[last]
	(*l)[last] = nil
	*l = (*l)[:last]
	return s
}
