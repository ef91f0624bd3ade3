package walk_test

import (
	"math"
	"math/rand"
	"slices"
	"strconv"
	"testing"

	"roundelay/api"
	"roundelay/tree"
	"roundelay/walk"
)

// Here some who go through a tree are held against the document's own sentence, worked out over a plain list of the entries, while entries come and go.

// one is a walk, its range, and where it should be.
type one struct {
	w *walk.Walk
	r api.Range
	m api.Mark
}

// crowd are some of these, their tree, the same entries in no order, and how often each answer came.
type crowd struct {
	t    *testing.T
	r    *rand.Rand
	x    *tree.Tree
	list []api.Entry
	all  []*one
	seen map[string]int
}

func (c *crowd) count(what string, ok bool) { c.seen[what+" "+strconv.FormatBool(ok)]++ }

var some = []string{"", "\x00", "a", "a\x00", "aa", "b", "b\xff", "c", "\xc3", "é", "\xff", "\xff\xff"}

func (c *crowd) anyKey() string { return some[c.r.Intn(len(some))] }

// anyEntry is of few keys and few numbers, so that the same one comes again.
func (c *crowd) anyEntry() api.Entry {
	id := c.r.Int63n(9) - 4
	switch c.r.Intn(8) {
	case 0:
		id = math.MinInt64
	case 1:
		id = math.MaxInt64
	}
	return entry(c.anyKey(), id)
}

// anyThere is one that is there three times of four, if any is.
func (c *crowd) anyThere() api.Entry {
	if len(c.list) == 0 || c.r.Intn(4) == 0 {
		return c.anyEntry()
	}
	return c.list[c.r.Intn(len(c.list))]
}

// anyNear is the one that somebody was told last, or should be told next, more often than any other one.
func (c *crowd) anyNear() api.Entry {
	o := c.all[c.r.Intn(len(c.all))]
	switch c.r.Intn(3) {
	case 0:
		return o.m.Entry
	case 1:
		if e, ok := next(c.list, o.r, o.m); ok {
			return e
		}
	}
	return c.anyThere()
}

func (c *crowd) anyRange() api.Range {
	r := api.Range{Down: c.r.Intn(2) == 0}
	if c.r.Intn(3) > 0 {
		r.From = c.anyKey()
	}
	if c.r.Intn(3) > 0 {
		r.To = c.anyKey()
	}
	return r
}

func (c *crowd) add() {
	e := c.anyEntry()
	fresh := !slices.Contains(c.list, e)
	c.count("add", fresh)
	if fresh {
		c.list = slices.Insert(c.list, c.r.Intn(len(c.list)+1), e)
	}
	if c.x.Add(e) != fresh {
		c.t.Fatalf("Add(%v) is not %t", e, fresh)
	}
}

func (c *crowd) del() {
	e := c.anyNear()
	at := slices.Index(c.list, e)
	c.count("del", at >= 0)
	if at >= 0 {
		c.list = slices.Delete(c.list, at, at+1)
	}
	if c.x.Del(e) != (at >= 0) {
		c.t.Fatalf("Del(%v) is not %t", e, at >= 0)
	}
}

// fresh puts another one in the stead of somebody: one who begins, one who goes on by any mark, or by what somebody is told.
func (c *crowd) fresh() {
	o := c.all[c.r.Intn(len(c.all))]
	o.r = c.anyRange()
	switch c.r.Intn(3) {
	case 0:
		o.m = api.Mark{}
		o.w = walk.New(c.x, o.r)
	case 1:
		m := api.Mark{Entry: c.anyThere(), Began: c.r.Intn(3) > 0}
		o.w = walk.Resume(c.x, o.r, m)
		o.m = api.Mark{}
		if m.Began {
			o.m = m
		}
		c.count("began", m.Began)
		c.count("in", isIn(m.Entry, o.r))
	default:
		other := c.all[c.r.Intn(len(c.all))]
		if c.r.Intn(2) == 0 {
			o.r = other.r
		}
		o.m = other.m
		o.w = walk.Resume(c.x, o.r, other.w.Mark())
	}
}

func (c *crowd) next() {
	o := c.all[c.r.Intn(len(c.all))]
	want, there := next(c.list, o.r, o.m)
	got, ok := o.w.Next()
	c.count("next", there)
	c.count("down "+strconv.FormatBool(o.r.Down), there)
	if got != want || ok != there {
		c.t.Fatalf("%+v, behind %+v, of %v: Next = %v, %t; want %v, %t", o.r, o.m, c.list, got, ok, want, there)
	}
	if ok {
		o.m = behind(got)
	}
}

func (c *crowd) step(grow bool) {
	switch kind := c.r.Intn(40); {
	case kind < 2, grow && kind < 12:
		c.add()
	case kind < 14:
		c.del()
	case kind < 17:
		c.fresh()
	default:
		c.next()
	}
	for _, o := range c.all {
		if o.w.Mark() != o.m {
			c.t.Fatalf("Mark = %+v; want %+v", o.w.Mark(), o.m)
		}
	}
	if c.x.Len() != len(c.list) {
		c.t.Fatalf("Len = %d; want %d", c.x.Len(), len(c.list))
	}
}

func TestAgainstTheSentence(t *testing.T) {
	c := &crowd{t: t, r: rand.New(rand.NewSource(9)), x: tree.New(), seen: map[string]int{}}
	for range 6 {
		c.all = append(c.all, &one{w: walk.New(c.x, api.Range{})})
	}
	great, empty := 0, 0
	for i := range 30000 {
		c.step(i%1500 < 900)
		great = max(great, len(c.list))
		if len(c.list) == 0 {
			empty++
		}
		if i%500 == 0 && !slices.Equal(all(c.x), part(c.list, api.Range{})) {
			t.Fatalf("the tree has %v; want %v", all(c.x), part(c.list, api.Range{}))
		}
	}
	for _, what := range []string{"add", "del", "began", "in", "next", "down true", "down false"} {
		if c.seen[what+" true"] < 200 || c.seen[what+" false"] < 200 {
			t.Errorf("too few of one answer: %v", c.seen)
		}
	}
	if great < 40 || empty < 20 {
		t.Errorf("there were %d entries at most, and none %d times", great, empty)
	}
}
