package tree_test

import (
	"math/rand"
	"slices"
	"sort"
	"testing"

	"roundelay/api"
	"roundelay/tree"
)

// Here it is asked that the nodes are as they should be (P8.3), behind each deed.

// shape is a node as Nodes tells it, and those right below it.
type shape struct {
	api.Node
	below []shape
}

// read is the node that is told first, with all below it, and what is told behind that.
func read(l []api.Node) (shape, []api.Node) {
	s := shape{Node: l[0]}
	l = l[1:]
	for len(l) > 0 && l[0].Depth == s.Depth+1 {
		var b shape
		b, l = read(l)
		s.below = append(s.below, b)
	}
	return s, l
}

// leaves are how deep each of them is.
func (s shape) leaves() []int {
	if len(s.below) == 0 {
		return []int{s.Depth}
	}
	var out []int
	for _, b := range s.below {
		out = append(out, b.leaves()...)
	}
	return out
}

// check tells what is wrong with a node, and with those below it.
func (s shape) check(t *testing.T) {
	t.Helper()
	if s.Leaf != (len(s.below) == 0) {
		t.Fatalf("%+v, but it has %d below it", s.Node, len(s.below))
	}
	if !s.Leaf && len(s.below) != s.Entries+1 {
		t.Fatalf("%+v has %d below it", s.Node, len(s.below))
	}
	if s.Entries > 4 || s.Entries < 0 || s.Depth > 1 && s.Entries < 2 || !s.Leaf && s.Entries < 1 {
		t.Fatalf("%+v", s.Node)
	}
	for _, b := range s.below {
		b.check(t)
	}
}

// deal puts entries, which are in order, where they stand, if what is below a node lies between the entries left and right of it: told are those of nodes that are no leaves, those of leaves, and what is left.
func (s shape) deal(es []api.Entry) (inner, outer, rest []api.Entry) {
	if len(s.below) == 0 {
		n := min(s.Entries, len(es))
		return nil, es[:n], es[n:]
	}
	for i, b := range s.below {
		in, out, left := b.deal(es)
		inner, outer, es = append(inner, in...), append(outer, out...), left
		if i < s.Entries && len(es) > 0 {
			inner, es = append(inner, es[0]), es[1:]
		}
	}
	return inner, outer, es
}

// shapeOf is the topmost node, of nodes that are as they should be.
func shapeOf(t *testing.T, x *tree.Tree) shape {
	t.Helper()
	nodes := x.Nodes()
	if len(nodes) == 0 || nodes[0].Depth != 1 {
		t.Fatalf("Nodes = %+v", nodes)
	}
	top, rest := read(nodes)
	if len(rest) > 0 {
		t.Fatalf("%+v is below none of those ahead of it in %+v", rest[0], nodes)
	}
	top.check(t)
	if deep := top.leaves(); slices.Min(deep) != slices.Max(deep) {
		t.Fatalf("leaves are %v deep", deep)
	}
	return top
}

// checkNodes holds the nodes against the entries, in order, that should stand in them. That each lies between those left and right of it is told by Has, After and Before, which find each (see checkTree), and by this that there are just as many.
func checkNodes(t *testing.T, x *tree.Tree, want []api.Entry) {
	t.Helper()
	sum := 0
	for _, n := range x.Nodes() {
		sum += n.Entries
	}
	inner, outer, rest := shapeOf(t, x).deal(want)
	if sum != len(want) || len(inner)+len(outer) != sum || len(rest) != 0 {
		t.Fatalf("%d entries stand in nodes; want %d", sum, len(want))
	}
}

// order is one in which places are gone through.
type order struct {
	name   string
	places []int
}

// orders are of n places: from either end, from both, from the middle, and any.
func orders(n int) []order {
	rise, fall, ends, out, steps := make([]int, n), make([]int, n), make([]int, n), make([]int, n), make([]int, n)
	for i := range n {
		rise[i], fall[i] = i, n-1-i
		ends[i] = i / 2
		if i%2 == 1 {
			ends[i] = n - 1 - i/2
		}
		out[n-1-i] = ends[i]
		steps[i] = i * 389 % n
	}
	list := []order{{"rise", rise}, {"fall", fall}, {"ends", ends}, {"out", out}}
	if n > 0 && n%389 != 0 {
		list = append(list, order{"steps", steps})
	}
	r := rand.New(rand.NewSource(int64(n)))
	for range 3 {
		list = append(list, order{"any", r.Perm(n)})
	}
	return list
}

func TestOrdersHaveEachPlaceOnce(t *testing.T) {
	for _, n := range []int{0, 1, 2, 3, 9, 70, 300} {
		for _, o := range orders(n) {
			for i, at := range slices.Sorted(slices.Values(o.places)) {
				if i != at || len(o.places) != n {
					t.Fatalf("%s of %d: %v", o.name, n, o.places)
				}
			}
		}
	}
}

// permute calls do with all orders of the first n places.
func permute(places []int, n int, do func([]int)) {
	if n == len(places) {
		do(places)
		return
	}
	for i := n; i < len(places); i++ {
		places[n], places[i] = places[i], places[n]
		permute(places, n+1, do)
		places[n], places[i] = places[i], places[n]
	}
}

func checkNodesAre(t *testing.T, x *tree.Tree, want ...api.Node) {
	t.Helper()
	for range 2 {
		if got := x.Nodes(); !slices.Equal(got, want) {
			t.Fatalf("Nodes = %+v; want %+v", got, want)
		}
	}
}

func TestNodesOfFew(t *testing.T) {
	for n := range 6 {
		permute([]int{0, 1, 2, 3, 4}[:n], 0, func(places []int) {
			x := tree.New()
			for _, at := range places {
				checkAdd(t, x, row(5)[at], true)
			}
			if n < 5 {
				checkNodesAre(t, x, api.Node{Depth: 1, Entries: n, Leaf: true})
				return
			}
			checkNodesAre(t, x, api.Node{Depth: 1, Entries: 1}, api.Node{Depth: 2, Entries: 2, Leaf: true}, api.Node{Depth: 2, Entries: 2, Leaf: true})
		})
	}
}

func TestFiveAndOneLess(t *testing.T) {
	for _, e := range row(5) {
		x := treeOf(t, row(5)...)
		checkAdd(t, x, e, false)
		checkDel(t, x, e, true)
		checkNodesAre(t, x, api.Node{Depth: 1, Entries: 4, Leaf: true})
		checkAdd(t, x, e, true)
		checkNodesAre(t, x, api.Node{Depth: 1, Entries: 1}, api.Node{Depth: 2, Entries: 2, Leaf: true}, api.Node{Depth: 2, Entries: 2, Leaf: true})
	}
}

// Of five entries there is but one way for them to stand, and a leaf that has room takes another one: so the left one is told from the right one.
func TestNodesAreToldFromTheLeft(t *testing.T) {
	for more := range 2 {
		left, right := treeOf(t, row(5)...), treeOf(t, row(5)...)
		for i := range more + 1 {
			checkAdd(t, left, entry("a", int64(i)), true)
			checkAdd(t, right, entry("z", int64(i)), true)
		}
		few, many := api.Node{Depth: 2, Entries: 2, Leaf: true}, api.Node{Depth: 2, Entries: 3 + more, Leaf: true}
		checkNodesAre(t, left, api.Node{Depth: 1, Entries: 1}, many, few)
		checkNodesAre(t, right, api.Node{Depth: 1, Entries: 1}, few, many)
	}
}

// How deep a tree of so many entries may be follows from how many each node has.
func TestDepthOfMany(t *testing.T) {
	for _, o := range orders(700) {
		x := tree.New()
		for i, at := range o.places {
			checkAdd(t, x, row(700)[at], true)
			n, deep := i+1, shapeOf(t, x).leaves()[0]
			for d, b := range [][2]int{{1, 4}, {5, 24}, {17, 124}, {53, 624}, {161, 3124}, {485, 15624}} {
				if deep == d+1 && (n < b[0] || n > b[1]) {
					t.Fatalf("%d entries stand %d deep", n, deep)
				}
			}
			if deep > 6 {
				t.Fatalf("%d entries stand %d deep", n, deep)
			}
		}
	}
}

func TestDelOfInnerAndOuterEntries(t *testing.T) {
	for _, o := range orders(130) {
		l := row(130)
		whole := func() *tree.Tree {
			x := tree.New()
			for _, at := range o.places {
				x.Add(l[at])
			}
			return x
		}
		inner, outer, _ := shapeOf(t, whole()).deal(l)
		if len(inner) < 20 || len(outer) < 80 {
			t.Fatalf("%d entries stand in nodes with others below, %d in leaves", len(inner), len(outer))
		}
		for _, e := range append(inner, outer...) {
			x := whole()
			checkAdd(t, x, e, false)
			checkDel(t, x, e, true)
			checkTree(t, x, without(l, e)...)
			checkDel(t, x, e, false)
			checkTree(t, x, without(l, e)...)
		}
	}
}

// dig takes away, as long as there are any, those of nodes that are no leaves, or those that are in leaves.
func dig(t *testing.T, x *tree.Tree, there []api.Entry, leaves bool) {
	t.Helper()
	r := rand.New(rand.NewSource(3))
	for len(there) > 0 {
		from, outer, _ := shapeOf(t, x).deal(there)
		if leaves || len(from) == 0 {
			from = outer
		}
		e := from[r.Intn(len(from))]
		checkDel(t, x, e, true)
		there = without(there, e)
		checkTree(t, x, there...)
	}
}

func TestDelOfAllInnerOrOuterEntries(t *testing.T) {
	for _, leaves := range []bool{false, true} {
		dig(t, treeOf(t, row(250)...), row(250), leaves)
		dig(t, treeOf(t, mixed()...), mixed(), leaves)
	}
}

// placeOf is where an entry stands in a list, and true; where it would stand, and false, if it is not there.
func placeOf(l []api.Entry, e api.Entry) (int, bool) {
	at := sort.Search(len(l), func(i int) bool { return !above(e, l[i]) })
	return at, at < len(l) && l[at] == e
}

// checkBeside asks for what stands beside an entry that was added or taken away, and for the nodes.
func checkBeside(t *testing.T, x *tree.Tree, there []api.Entry, e api.Entry) {
	t.Helper()
	at, found := placeOf(there, e)
	next := at
	if found {
		next++
	}
	checkAfter(t, x, e, there, next)
	checkBefore(t, x, e, there, at-1)
	checkNodes(t, x, there)
}

// runThrough adds all entries of a list in one order, and takes them away in another one.
func runThrough(t *testing.T, l []api.Entry, in, out order, check func(x *tree.Tree, there []api.Entry, e api.Entry)) {
	t.Helper()
	x := tree.New()
	var there []api.Entry
	for _, at := range in.places {
		checkAdd(t, x, l[at], true)
		place, _ := placeOf(there, l[at])
		there = slices.Insert(there, place, l[at])
		check(x, there, l[at])
	}
	checkTree(t, x, l...)
	for _, at := range out.places {
		checkDel(t, x, l[at], true)
		place, _ := placeOf(there, l[at])
		there = slices.Delete(there, place, place+1)
		check(x, there, l[at])
	}
	checkTree(t, x)
}

func TestAllOfSomeInManyOrders(t *testing.T) {
	for _, n := range []int{1, 2, 4, 5, 6, 16, 17, 18, 25, 53, 61} {
		for _, in := range orders(n) {
			for _, out := range orders(n) {
				runThrough(t, row(n), in, out, func(x *tree.Tree, there []api.Entry, _ api.Entry) { checkTree(t, x, there...) })
			}
		}
	}
}

func TestAllOfManyInManyOrders(t *testing.T) {
	for _, l := range [][]api.Entry{row(330), mixed()} {
		for _, in := range orders(len(l)) {
			for _, out := range orders(len(l)) {
				runThrough(t, l, in, out, func(x *tree.Tree, there []api.Entry, e api.Entry) { checkBeside(t, x, there, e) })
			}
		}
	}
}

func TestFewInAllOrders(t *testing.T) {
	l := row(7)
	permute([]int{0, 1, 2, 3, 4, 5, 6}, 0, func(places []int) {
		a, b := tree.New(), treeOf(t, l...)
		var there []api.Entry
		for _, at := range places {
			checkAdd(t, a, l[at], true)
			there = with(there, l[at])
			checkNodes(t, a, there)
		}
		checkTree(t, a, l...)
		for _, at := range places {
			checkDel(t, a, l[at], true)
			checkDel(t, b, l[at], true)
			there = without(there, l[at])
			checkNodes(t, a, there)
			checkNodes(t, b, there)
			checkTree(t, b, there...)
		}
		checkTree(t, a)
	})
}
