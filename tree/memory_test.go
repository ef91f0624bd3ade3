package tree_test

import (
	"slices"
	"testing"

	"roundelay/api"
	"roundelay/tree"
)

// Here it is asked that a tree shares no memory with what it tells, nor with what it is given (W6).

// spoil changes all that was told of nodes, behind the list's end, too.
func spoil(l []api.Node) {
	l = l[:cap(l)]
	for i := range l {
		l[i] = api.Node{Depth: -7, Entries: 99, Leaf: !l[i].Leaf}
	}
}

func TestNodesAreNewMemory(t *testing.T) {
	for _, n := range []int{0, 1, 4, 5, 30, 200} {
		x := treeOf(t, row(n)...)
		want := slices.Clone(x.Nodes())
		told := [][]api.Node{x.Nodes(), x.Nodes(), x.Nodes()}
		for len(told) > 0 {
			_ = append(told[0], api.Node{Depth: 8})
			spoil(told[0])
			told = told[1:]
			for _, l := range told {
				if !slices.Equal(l, want) {
					t.Fatalf("of %d entries: two answers share memory: %+v", n, l)
				}
			}
			checkNodesAre(t, x, want...)
			checkTree(t, x, row(n)...)
		}
	}
}

func TestSpoiltNodesDoNotReachLaterDeeds(t *testing.T) {
	x := tree.New()
	var there []api.Entry
	for _, e := range row(150) {
		spoil(x.Nodes())
		checkAdd(t, x, e, true)
		spoil(x.Nodes())
		there = append(there, e)
		checkNodes(t, x, there)
	}
	for len(there) > 0 {
		spoil(x.Nodes())
		checkDel(t, x, there[0], true)
		spoil(x.Nodes())
		there = there[1:]
		checkNodes(t, x, there)
	}
	checkTree(t, x)
}

func TestWhatWasToldOfNodesStaysAsItWas(t *testing.T) {
	x := tree.New()
	var told, copies [][]api.Node
	keep := func() {
		l := x.Nodes()
		told, copies = append(told, l), append(copies, slices.Clone(l))
	}
	keep()
	for _, o := range orders(150)[4:] {
		for _, at := range o.places {
			checkAdd(t, x, row(150)[at], true)
			keep()
		}
		for _, at := range o.places {
			checkDel(t, x, row(150)[at], true)
			keep()
		}
	}
	for i := range told {
		if !slices.Equal(told[i], copies[i]) {
			t.Fatalf("what was told behind %d deeds is %+v now; it was %+v", i, told[i], copies[i])
		}
	}
}

func TestWhatWasToldOfEntriesStaysAsItWas(t *testing.T) {
	x := treeOf(t, mixed()...)
	var told []api.Entry
	for e, ok := x.First(); ok; e, ok = x.After(e) {
		told = append(told, e)
	}
	for _, e := range mixed() {
		checkDel(t, x, e, true)
	}
	for _, e := range row(100) {
		checkAdd(t, x, e, true)
	}
	if !slices.Equal(told, mixed()) {
		t.Errorf("what was told is %v now", told)
	}
}

func TestWhatWasHandedInIsNotKept(t *testing.T) {
	x := tree.New()
	key := make([]byte, 1)
	handed := api.Entry{}
	var want []api.Entry
	for i := range 120 {
		key[0] = byte(i)
		handed.Key, handed.ID = string(key), int64(i)
		checkAdd(t, x, handed, true)
		want = append(want, entry(string([]byte{byte(i)}), int64(i)))
		if handed != want[i] {
			t.Fatalf("what was handed in is %v now", handed)
		}
		key[0], handed.ID = 255, -1
	}
	checkTree(t, x, want...)
	l := slices.Clone(want)
	for _, e := range l {
		x.Add(e)
		x.Has(e)
		x.After(e)
		x.Before(e)
		x.Del(e)
	}
	if !slices.Equal(l, want) {
		t.Errorf("what was handed in is %v now", l)
	}
}

func TestWhatIsToldMayBeChanged(t *testing.T) {
	x := treeOf(t, row(60)...)
	first, _ := x.First()
	last, _ := x.Last()
	next, _ := x.After(row(60)[20])
	ahead, _ := x.Before(row(60)[20])
	for _, e := range []*api.Entry{&first, &last, &next, &ahead} {
		e.Key, e.ID = "spoilt", 77
	}
	checkTree(t, x, row(60)...)
}

// What is only asked changes nothing.
func TestAskingChangesNothing(t *testing.T) {
	x := treeOf(t, row(90)...)
	nodes := x.Nodes()
	for range 3 {
		for _, e := range slices.Concat(row(90), between(90), far) {
			x.Has(e)
			x.After(e)
			x.Before(e)
		}
		x.First()
		x.Last()
		x.Len()
		checkTree(t, x, row(90)...)
		checkNodesAre(t, x, nodes...)
	}
}
