package index_test

import (
	"bytes"
	"math/rand"
	"slices"
	"strconv"
	"strings"
	"testing"

	"roundelay/api"
	"roundelay/heap"
	"roundelay/index"
	"roundelay/key"
)

// Here it is held against the document's own sentence what Of and Clash tell of records, and of entries, that are drawn.

// isPart tells whether a path can name a field of that name.
func isPart(name string) bool {
	return name != "" && len(name) <= 32 && !strings.Contains(name, ".")
}

// ways puts into out all that stands in a value, by the paths that lead there, which have at most that many parts more.
func ways(out map[string]api.Value, v api.Value, ahead string, more int) {
	if more == 0 {
		return
	}
	for i, x := range v.List {
		way := ahead + strconv.Itoa(i)
		out[way] = x
		ways(out, x, way+".", more-1)
	}
	for _, f := range v.Fields {
		if isPart(f.Name) {
			out[ahead+f.Name] = f.Value
			ways(out, f.Value, ahead+f.Name+".", more-1)
		}
	}
}

func below(a, b api.Entry) bool {
	c := bytes.Compare([]byte(a.Key), []byte(b.Key))
	return c < 0 || c == 0 && a.ID < b.ID
}

// of tells of records, in whatever order they are: each entry stands behind as many as are below it.
func of(docs []api.Doc, path string) []api.Entry {
	var es []api.Entry
	for _, d := range docs {
		found := map[string]api.Value{}
		ways(found, d.Value, "", 8)
		if v, ok := found[path]; ok {
			es = append(es, entry(key.Put(v), d.ID))
		}
	}
	out := make([]api.Entry, len(es))
	for _, e := range es {
		at := 0
		for _, other := range es {
			if below(other, e) {
				at++
			}
		}
		out[at] = e
	}
	return out
}

// clash looks from the end on, and keeps the last one that it finds.
func clash(l []api.Entry) (api.Entry, bool) {
	var out api.Entry
	found := false
	for i := len(l) - 1; i > 0; i-- {
		if l[i-1].Key == l[i].Key {
			out, found = l[i], true
		}
	}
	return out, found
}

// shares tells whether two of the entries have one key, wherever they stand.
func shares(l []api.Entry) bool {
	seen := map[string]int{}
	for _, e := range l {
		seen[e.Key]++
	}
	return len(seen) < len(l)
}

// draw makes records, paths and entries.
type draw struct{ *rand.Rand }

func (r draw) one(ss ...string) string { return ss[r.Intn(len(ss))] }

// leaf is one of few as often as not, so that records share keys.
func (r draw) leaf() api.Value {
	switch r.Intn(8) {
	case 0:
		return api.Value{}
	case 1:
		return api.Value{Kind: api.Bool, Int: int64(r.Intn(2))}
	case 2:
		return num(int64(r.Uint64()) >> r.Intn(64))
	case 3, 4:
		return num(int64(r.Intn(5) - 2))
	}
	return txt(r.one("", "a", "b", "ab", "a\x00", "a\x00b", "é", "z", "\x00", "5"))
}

func (r draw) value(deep int) api.Value {
	if deep == 0 || r.Intn(4) == 0 {
		return r.leaf()
	}
	if r.Intn(3) == 0 {
		out := list()
		for range r.Intn(4) {
			out.List = append(out.List, r.value(deep-1))
		}
		return out
	}
	return r.object(deep)
}

func (r draw) object(deep int) api.Value {
	out := obj()
	for _, name := range []string{"", "0", "1", "a", "a.b", "b", strings.Repeat("x", 33)} {
		if r.Intn(3) > 0 {
			out.Fields = append(out.Fields, field(name, r.value(deep-1)))
		}
	}
	return out
}

// path is none now and then.
func (r draw) path() string {
	parts := []string{r.one("a", "a", "b", "0", "1", "c", "", strings.Repeat("x", 33))}
	for r.Intn(2) == 0 {
		parts = append(parts, r.one("a", "a", "b", "0", "1", "2", "00", "", "c"))
	}
	return strings.Join(parts, ".")
}

// entries have keys of few, in any order, or rising.
func (r draw) entries() []api.Entry {
	var out []api.Entry
	for range r.Intn(12) {
		out = append(out, entry(r.one("", "\x00", "a", "a\x00", "ab", "b", "\xff", k(1), k(2), k(3), k(4), k(5), k(6)), r.Int63n(5)))
	}
	if r.Intn(2) == 0 {
		slices.SortFunc(out, func(a, b api.Entry) int { return bytes.Compare([]byte(a.Key), []byte(b.Key)) })
	}
	return out
}

// count is how often each answer came.
type count map[string]int

func (c count) add(what string, yes bool) { c[what+" "+strconv.FormatBool(yes)]++ }

func (c count) check(t *testing.T, least int, whats ...string) {
	t.Helper()
	for _, what := range whats {
		if c[what+" true"] < least || c[what+" false"] < least {
			t.Errorf("too few of one answer: %v", c)
		}
	}
}

// pair is a heap and a plain list of its records, which go towards that many.
type pair struct {
	r    draw
	h    *heap.Heap
	docs []api.Doc
	many int
}

// step adds a record, changes one, or takes one away.
func (p *pair) step() {
	v := p.r.object(2)
	if p.r.Intn(20) == 0 {
		v = p.r.value(2)
	}
	if p.r.Intn(2*p.many) >= len(p.docs) {
		id, _ := p.h.Insert(v)
		p.docs = append(p.docs, api.Doc{ID: id, Value: v})
		// The list is in no order of numbers.
		at := p.r.Intn(len(p.docs))
		p.docs[at], p.docs[len(p.docs)-1] = p.docs[len(p.docs)-1], p.docs[at]
		return
	}
	at := p.r.Intn(len(p.docs))
	if p.r.Intn(2) == 0 {
		p.h.Set(p.docs[at].ID, v)
		p.docs[at].Value = v
		return
	}
	p.h.Delete(p.docs[at].ID)
	p.docs = slices.Delete(p.docs, at, at+1)
}

func (p *pair) check(t *testing.T, seen count) {
	t.Helper()
	for _, s := range both(p.r.one("i", "", "A"), p.r.path()) {
		want := of(p.docs, s.Path)
		got := index.Of(s, p.h)
		if !slices.Equal(got, want) {
			t.Fatalf("Of by %q of %v = %s; want %s", s.Path, p.docs, show(got...), show(want...))
		}
		e, ok := index.Clash(got)
		if first, there := clash(want); e != first || ok != there || ok != shares(want) {
			t.Fatalf("Clash of %s = %s, %t; want %s, %t", show(got...), show(e), ok, show(first), there)
		}
		seen.add("some", len(want) > 0)
		seen.add("all", len(want) == len(p.docs))
		seen.add("many", len(want) > 20)
		seen.add("clash", ok)
	}
}

func TestAgainstAPlainList(t *testing.T) {
	seen := count{}
	for seed := range int64(60) {
		p := &pair{r: draw{rand.New(rand.NewSource(seed))}, h: heap.New(), many: 1 + int(seed)/2}
		for range 200 {
			p.step()
			p.check(t, seen)
		}
	}
	seen.check(t, 200, "some", "all", "many", "clash")
}

func TestAgainstAPlainListOfHundreds(t *testing.T) {
	seen := count{}
	p := &pair{r: draw{rand.New(rand.NewSource(100))}, h: heap.New(), many: 300}
	for range 3000 {
		p.step()
		if p.r.Intn(20) == 0 {
			p.check(t, seen)
		}
	}
	if len(p.docs) < 250 {
		t.Errorf("there are but %d records", len(p.docs))
	}
	seen.check(t, 20, "some", "many", "clash")
}

func TestKeyAgainstAllWays(t *testing.T) {
	r, seen := draw{rand.New(rand.NewSource(10))}, count{}
	for range 5000 {
		v := r.value(4)
		found := map[string]api.Value{}
		ways(found, v, "", 8)
		for way, x := range found {
			checkKey(t, v, way, key.Put(x))
		}
		way := r.path()
		x, ok := found[way]
		seen.add("key", ok)
		if ok {
			checkKey(t, v, way, key.Put(x))
		} else {
			checkNoKey(t, v, way)
		}
	}
	seen.check(t, 500, "key")
}

func TestClashAgainstTheSentence(t *testing.T) {
	r, seen := draw{rand.New(rand.NewSource(11))}, count{}
	for range 20000 {
		l := r.entries()
		want, there := clash(l)
		if e, ok := index.Clash(l); e != want || ok != there {
			t.Fatalf("Clash of %s = %s, %t; want %s, %t", show(l...), show(e), ok, show(want), there)
		}
		seen.add("clash", there)
		seen.add("clash, or a key twice", there || shares(l))
	}
	seen.check(t, 3000, "clash", "clash, or a key twice")
}
