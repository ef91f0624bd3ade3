package walk_test

import (
	"slices"
	"testing"

	"roundelay/api"
	"roundelay/tree"
	"roundelay/walk"
)

// Here it is asked that going through a tree changes nothing of it, and nothing of what others are told (P9.1, W6).

// all are the entries of a tree, told by the tree alone.
func all(x *tree.Tree) []api.Entry {
	var out []api.Entry
	for e, ok := x.First(); ok; e, ok = x.After(e) {
		out = append(out, e)
	}
	return out
}

func checkTree(t *testing.T, x *tree.Tree, es []api.Entry, nodes []api.Node) {
	t.Helper()
	if got := all(x); !slices.Equal(got, es) || x.Len() != len(es) {
		t.Fatalf("the tree has %v, Len %d; want %v", got, x.Len(), es)
	}
	if got := x.Nodes(); !slices.Equal(got, nodes) {
		t.Fatalf("the tree has nodes %v; want %v", got, nodes)
	}
}

func TestTheTreeStaysAsItWas(t *testing.T) {
	for _, es := range [][]api.Entry{nil, {{}}, row(1), row(5), row(120), ofKeys(keys, -1, 0, 1)} {
		x := treeOf(t, es...)
		nodes := x.Nodes()
		for _, r := range ranges([]string{"", "k", "l"}) {
			for _, m := range []api.Mark{{}, behind(entry("k", 7)), behind(entry("k", 8)), {Entry: entry("k", 8)}, behind(entry("", -3)), behind(entry("z", 3))} {
				w := walk.Resume(x, r, m)
				checkTree(t, x, es, nodes)
				for ok := true; ok; _, ok = w.Next() {
					w.Mark()
				}
				w.Next()
				checkTree(t, x, es, nodes)
			}
			walk.New(x, r)
			checkTree(t, x, es, nodes)
		}
	}
	x := treeOf(t, row(60)...)
	nodes := x.Nodes()
	for _, r := range []api.Range{up, down} {
		w := walk.New(x, r)
		for range 70 {
			w.Next()
			w.Mark()
			checkTree(t, x, row(60), nodes)
		}
	}
}

// The tree is the same one, not a copy: what is added to it later is told.
func TestTheTreeIsTheSameOne(t *testing.T) {
	x := tree.New()
	w, v := walk.New(x, up), walk.Resume(x, down, api.Mark{})
	for _, e := range row(100) {
		add(t, x, e)
		checkNext(t, w, e)
	}
	for _, e := range part(row(100), down) {
		checkNext(t, v, e)
	}
}

func TestTwoInOneTree(t *testing.T) {
	x := treeOf(t, letters("abcdef")...)
	first, second := walk.New(x, up), walk.New(x, up)
	back := walk.New(x, down)
	some := walk.New(x, api.Range{From: "c", To: "e"})
	checkNext(t, first, letter("a"))
	checkNext(t, first, letter("b"))
	checkMark(t, second, api.Mark{})
	checkMark(t, back, api.Mark{})
	checkNext(t, second, letter("a"))
	checkNext(t, back, letter("f"))
	checkMark(t, first, behind(letter("b")))
	checkNext(t, some, letter("c"))
	checkNext(t, first, letter("c"))
	checkRest(t, back, behind(letter("f")), letters("edcba")...)
	checkRest(t, second, behind(letter("a")), letters("bcdef")...)
	checkRest(t, some, behind(letter("c")), letters("d")...)
	checkRest(t, first, behind(letter("c")), letters("def")...)
}

// One of them takes away what the other one was told, or is about to be told.
func TestTwoInATreeThatChanges(t *testing.T) {
	x := treeOf(t, letters("abcdef")...)
	first, second := walk.New(x, up), walk.New(x, down)
	for _, e := range letters("abc") {
		checkNext(t, first, e)
		del(t, x, e)
	}
	checkNext(t, second, letter("f"))
	del(t, x, letter("f"))
	checkNext(t, second, letter("e"))
	add(t, x, letter("b"))
	checkRest(t, first, behind(letter("c")), letters("de")...)
	checkRest(t, second, behind(letter("e")), letters("db")...)
}

func TestWalksOfTwoTrees(t *testing.T) {
	x, y := treeOf(t, letters("ace")...), treeOf(t, letters("bdf")...)
	w, v := walk.New(x, up), walk.New(y, up)
	checkNext(t, w, letter("a"))
	checkNext(t, v, letter("b"))
	del(t, x, letter("c"))
	add(t, y, letter("c"))
	checkRest(t, w, behind(letter("a")), letters("e")...)
	checkRest(t, v, behind(letter("b")), letters("cdf")...)
}

// One who is resumed and the one who told the mark are nothing to one another.
func TestResumedStandsByItself(t *testing.T) {
	x := treeOf(t, letters("abcde")...)
	w := walk.New(x, up)
	checkNext(t, w, letter("a"))
	v := walk.Resume(x, up, w.Mark())
	checkNext(t, w, letter("b"))
	checkNext(t, w, letter("c"))
	checkMark(t, v, behind(letter("a")))
	checkRest(t, v, behind(letter("a")), letters("bcde")...)
	checkRest(t, w, behind(letter("c")), letters("de")...)
}

// What is handed in, and what is told, may be changed afterwards.
func TestWhatIsHandedInAndToldMayBeChanged(t *testing.T) {
	x := treeOf(t, letters("abcde")...)
	r, m := api.Range{From: "b", To: "e"}, behind(letter("b"))
	w, v := walk.New(x, r), walk.Resume(x, r, m)
	if r != (api.Range{From: "b", To: "e"}) || m != behind(letter("b")) {
		t.Fatalf("what was handed in is %+v, %+v now", r, m)
	}
	r.From, r.To, r.Down = "z", "a", true
	m.Entry, m.Began = letter("d"), false
	checkMark(t, v, behind(letter("b")))
	e, _ := w.Next()
	e.Key, e.ID = "spoilt", 77
	told := w.Mark()
	told.Entry, told.Began = letter("d"), false
	checkRest(t, w, behind(letter("b")), letters("cd")...)
	checkRest(t, v, behind(letter("b")), letters("cd")...)
	if !slices.Equal(all(x), letters("abcde")) {
		t.Errorf("the tree has %v", all(x))
	}
}
