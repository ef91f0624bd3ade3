package tree_test

import (
	"math/rand"
	"strconv"
	"testing"

	"roundelay/api"
	"roundelay/tree"
)

// Here a tree is held against a plain map, call by call.

// model is such a map: it looks at all its entries, and keeps the best one.
type model map[api.Entry]int

func (m model) has(e api.Entry) bool { return m[e] == 1 }

func (m model) best(fits func(e api.Entry) bool, better func(a, b api.Entry) bool) (api.Entry, bool) {
	var out api.Entry
	found := false
	for e := range m {
		if fits(e) && (!found || better(e, out)) {
			out, found = e, true
		}
	}
	return out, found
}

func below(a, b api.Entry) bool { return above(b, a) }

func each(api.Entry) bool { return true }

// all are the entries, in order.
func (m model) all() []api.Entry {
	var out []api.Entry
	for e := range m {
		out = append(out, e)
	}
	return inOrder(out...)
}

// pair is a tree, its model, and how often each answer came.
type pair struct {
	t    *testing.T
	r    *rand.Rand
	x    *tree.Tree
	m    model
	seen map[string]int
}

func (p *pair) count(what string, ok bool) { p.seen[what+" "+strconv.FormatBool(ok)]++ }

// anyEntry is of few keys and few numbers, so that the same one comes again.
func (p *pair) anyEntry() api.Entry {
	id := p.r.Int63n(25) - 12
	if p.r.Intn(3) == 0 {
		id = numbers[p.r.Intn(len(numbers))]
	}
	return entry(keys[p.r.Intn(len(keys))], id)
}

// anyThere is one that is there two times of three, if there is any behind it.
func (p *pair) anyThere() api.Entry {
	e := p.anyEntry()
	if p.r.Intn(3) == 0 {
		return e
	}
	if near, ok := p.m.best(func(x api.Entry) bool { return !below(x, e) }, below); ok {
		return near
	}
	return e
}

func (p *pair) same(what string, e, got api.Entry, ok bool, want api.Entry, there bool) {
	p.count(what, there)
	if got != want || ok != there {
		p.t.Fatalf("%s of %v = %v, %t; want %v, %t", what, e, got, ok, want, there)
	}
}

func (p *pair) add() {
	e := p.anyEntry()
	fresh := !p.m.has(e)
	p.m[e] = 1
	p.count("add", fresh)
	if ok := p.x.Add(e); ok != fresh {
		p.t.Fatalf("Add(%v) = %t", e, ok)
	}
}

func (p *pair) del() {
	e := p.anyThere()
	there := p.m.has(e)
	delete(p.m, e)
	p.count("del", there)
	if ok := p.x.Del(e); ok != there {
		p.t.Fatalf("Del(%v) = %t", e, ok)
	}
}

func (p *pair) look() {
	e := p.anyThere()
	p.count("has", p.m.has(e))
	if p.x.Has(e) != p.m.has(e) {
		p.t.Fatalf("Has(%v) = %t", e, p.x.Has(e))
	}
	want, there := p.m.best(func(x api.Entry) bool { return above(x, e) }, below)
	got, ok := p.x.After(e)
	p.same("after", e, got, ok, want, there)
	want, there = p.m.best(func(x api.Entry) bool { return below(x, e) }, above)
	got, ok = p.x.Before(e)
	p.same("before", e, got, ok, want, there)
	want, there = p.m.best(each, below)
	got, ok = p.x.First()
	p.same("first", e, got, ok, want, there)
	want, there = p.m.best(each, above)
	got, ok = p.x.Last()
	p.same("last", e, got, ok, want, there)
}

// step does one thing, which is an add more often, if the tree is to grow, and a del, if not.
func (p *pair) step(grow bool) {
	switch kind := p.r.Intn(30); {
	case kind < 1, grow && kind < 21:
		p.add()
	case kind < 24:
		p.del()
	default:
		p.look()
	}
	if p.x.Len() != len(p.m) {
		p.t.Fatalf("Len = %d; want %d", p.x.Len(), len(p.m))
	}
	shapeOf(p.t, p.x)
}

func TestAgainstAMap(t *testing.T) {
	p := &pair{t: t, r: rand.New(rand.NewSource(7)), x: tree.New(), m: model{}, seen: map[string]int{}}
	great, empty, deep := 0, 0, 0
	for i := range 28800 {
		p.step(i%2400 < 1000)
		if i%250 == 0 {
			checkTree(t, p.x, p.m.all()...)
		}
		great = max(great, len(p.m))
		deep = max(deep, shapeOf(t, p.x).leaves()[0])
		if len(p.m) == 0 {
			empty++
		}
	}
	for _, what := range []string{"add", "del", "has", "after", "before"} {
		if p.seen[what+" true"] < 200 || p.seen[what+" false"] < 20 {
			t.Errorf("too few of one answer: %v", p.seen)
		}
	}
	if great < 400 || empty < 5 || deep < 4 {
		t.Errorf("the tree had %d entries at most, was empty %d times and at most %d deep", great, empty, deep)
	}
}
