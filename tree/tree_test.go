package tree_test

import (
	"math"
	"slices"
	"strings"
	"testing"

	"roundelay/api"
	"roundelay/tree"
)

func entry(key string, id int64) api.Entry { return api.Entry{Key: key, ID: id} }

// above tells whether a stands behind b.
func above(a, b api.Entry) bool { return a.Key > b.Key || a.Key == b.Key && a.ID > b.ID }

// inOrder are entries as they should stand.
func inOrder(es ...api.Entry) []api.Entry {
	out := slices.Clone(es)
	slices.SortFunc(out, func(a, b api.Entry) int {
		switch {
		case above(a, b):
			return 1
		case above(b, a):
			return -1
		}
		return 0
	})
	return out
}

func checkAdd(t *testing.T, x *tree.Tree, e api.Entry, want bool) {
	t.Helper()
	n := x.Len()
	if want {
		n++
	}
	if ok := x.Add(e); ok != want || !x.Has(e) || x.Len() != n {
		t.Fatalf("Add(%v) = %t, Has %t, Len %d; want %t, Len %d", e, ok, x.Has(e), x.Len(), want, n)
	}
}

func checkDel(t *testing.T, x *tree.Tree, e api.Entry, want bool) {
	t.Helper()
	n := x.Len()
	if want {
		n--
	}
	if ok := x.Del(e); ok != want || x.Has(e) || x.Len() != n {
		t.Fatalf("Del(%v) = %t, Has %t, Len %d; want %t, Len %d", e, ok, x.Has(e), x.Len(), want, n)
	}
}

// checkTold holds what First, Last, After or Before told against the entry at a place of a list: none, if that is not in it.
func checkTold(t *testing.T, what string, got api.Entry, ok bool, list []api.Entry, at int) {
	t.Helper()
	var want api.Entry
	there := at >= 0 && at < len(list)
	if there {
		want = list[at]
	}
	if got != want || ok != there {
		t.Fatalf("%s = %v, %t; want %v, %t", what, got, ok, want, there)
	}
}

func checkAfter(t *testing.T, x *tree.Tree, e api.Entry, list []api.Entry, at int) {
	t.Helper()
	got, ok := x.After(e)
	checkTold(t, "After", got, ok, list, at)
}

func checkBefore(t *testing.T, x *tree.Tree, e api.Entry, list []api.Entry, at int) {
	t.Helper()
	got, ok := x.Before(e)
	checkTold(t, "Before", got, ok, list, at)
}

// checkTree holds all that a tree tells of itself against the entries, in order, that it should have.
func checkTree(t *testing.T, x *tree.Tree, want ...api.Entry) {
	t.Helper()
	if x.Len() != len(want) {
		t.Fatalf("Len = %d; want %d", x.Len(), len(want))
	}
	first, ok := x.First()
	checkTold(t, "First", first, ok, want, 0)
	last, ok := x.Last()
	checkTold(t, "Last", last, ok, want, len(want)-1)
	for i, e := range want {
		if !x.Has(e) {
			t.Fatalf("Has(%v) = false", e)
		}
		checkAfter(t, x, e, want, i+1)
		checkBefore(t, x, e, want, i-1)
	}
	checkNodes(t, x, want)
}

// checkGone asks for entries that are not there: for each of them how many of those that are there stand ahead of it.
func checkGone(t *testing.T, x *tree.Tree, want []api.Entry, gone ...api.Entry) {
	t.Helper()
	for _, e := range gone {
		at := 0
		for at < len(want) && above(e, want[at]) {
			at++
		}
		if x.Has(e) {
			t.Fatalf("Has(%v) = true", e)
		}
		checkAfter(t, x, e, want, at)
		checkBefore(t, x, e, want, at-1)
		checkDel(t, x, e, false)
	}
	checkTree(t, x, want...)
}

func treeOf(t *testing.T, es ...api.Entry) *tree.Tree {
	t.Helper()
	x := tree.New()
	for _, e := range es {
		checkAdd(t, x, e, true)
	}
	return x
}

// row has n entries, every other number of one key, so that there is one between any two of them.
func row(n int) []api.Entry {
	var out []api.Entry
	for i := range n {
		out = append(out, entry("k", int64(2*i)))
	}
	return out
}

// between are the entries that row leaves out, and one at either end.
func between(n int) []api.Entry {
	var out []api.Entry
	for i := range n + 1 {
		out = append(out, entry("k", int64(2*i-1)))
	}
	return out
}

// with is a list with another entry, in order; without one is a list without it.
func with(l []api.Entry, e api.Entry) []api.Entry { return inOrder(append(slices.Clone(l), e)...) }

func without(l []api.Entry, e api.Entry) []api.Entry {
	return slices.DeleteFunc(slices.Clone(l), func(f api.Entry) bool { return e == f })
}

// far are entries below and above all that other tests add.
var far = []api.Entry{{Key: "", ID: math.MinInt64}, {Key: "\xff\xff\xff\xff", ID: math.MaxInt64}}

// P8.1

func TestNew(t *testing.T) {
	x := tree.New()
	if x == nil {
		t.Fatal("New is nil")
	}
	checkTree(t, x)
	if got := x.Nodes(); !slices.Equal(got, []api.Node{{Depth: 1, Leaf: true}}) {
		t.Errorf("Nodes = %v; want a leaf of none", got)
	}
	checkGone(t, x, nil, append(slices.Clone(far), entry("", 0), entry("a", 1), entry("k", -1))...)
}

func TestTreesStandByThemselves(t *testing.T) {
	a, b := tree.New(), tree.New()
	for _, e := range row(30) {
		checkAdd(t, a, e, true)
	}
	checkTree(t, b)
	checkAdd(t, b, entry("k", 2), true)
	checkDel(t, b, entry("k", 2), true)
	checkAdd(t, b, entry("k", 3), true)
	checkTree(t, a, row(30)...)
	checkTree(t, b, entry("k", 3))
	checkTree(t, tree.New())
}

func TestAddTheFirst(t *testing.T) {
	for _, e := range append(slices.Clone(far), api.Entry{}, entry("a", 1), entry("a", -1), entry("\x00", 0), entry("", 5)) {
		x := tree.New()
		checkAdd(t, x, e, true)
		checkTree(t, x, e)
		checkAdd(t, x, e, false)
		checkTree(t, x, e)
	}
}

func TestAddOne(t *testing.T) {
	for n := range 60 {
		for _, e := range append(between(n), far...) {
			x := treeOf(t, row(n)...)
			checkAdd(t, x, e, true)
			checkTree(t, x, with(row(n), e)...)
		}
	}
}

func TestAddOneThatIsThere(t *testing.T) {
	for n := range 60 {
		x := treeOf(t, row(n)...)
		for _, e := range row(n) {
			checkAdd(t, x, e, false)
			checkAdd(t, x, e, false)
			checkTree(t, x, row(n)...)
		}
	}
}

// numbers are of one key, in order.
var numbers = []int64{math.MinInt64, math.MinInt64 + 1, -1 << 32, -1<<31 - 1, -1 << 31, -500, -10, -9, -2, -1, 0, 1, 2, 9, 10, 11, 100, 1<<31 - 1, 1 << 31, 1 << 32, 1<<32 + 1, math.MaxInt64 - 1, math.MaxInt64}

func numbered() []api.Entry {
	var out []api.Entry
	for _, id := range numbers {
		out = append(out, entry("a", id))
	}
	return out
}

// keys are texts in the order of their bytes: some begin with others, some are no UTF-8, and some would stand elsewhere by how long they are, by their characters, or by their bytes with signs.
var keys = []string{"", "\x00", "\x00\x00", "\x00\x01", "\x00\xff", "\x01", "0", "10", "9", "A", "Z", "a", "a\x00", "a\x00\x00", "a\x00a", "a\x01", "aa", "ab", "aé", "a\xff", "b", "ba", "z", "\x7f", "\x80", "\xc3", "é", "é\x00", "\xc3\xff", "￿", "𐀀", "\xfe", "\xff", "\xff\x00", "\xff\xff"}

func keyed() []api.Entry {
	var out []api.Entry
	for _, k := range keys {
		out = append(out, entry(k, 1))
	}
	return out
}

// mixed are entries of several keys and several numbers each, in order.
func mixed() []api.Entry {
	var out []api.Entry
	for _, k := range keys {
		for _, id := range []int64{math.MinInt64, -1, 0, 1 << 33, math.MaxInt64} {
			out = append(out, entry(k, id))
		}
	}
	return out
}

func TestListsAreInOrder(t *testing.T) {
	for _, l := range [][]api.Entry{numbered(), keyed(), mixed(), row(9)} {
		for i := 1; i < len(l); i++ {
			if !above(l[i], l[i-1]) {
				t.Errorf("%v does not stand above %v", l[i], l[i-1])
			}
		}
	}
}

func TestOrder(t *testing.T) {
	for _, l := range [][]api.Entry{numbered(), keyed(), mixed()} {
		for _, o := range orders(len(l)) {
			x := tree.New()
			for _, at := range o.places {
				checkAdd(t, x, l[at], true)
			}
			checkTree(t, x, l...)
			for _, at := range o.places {
				checkAdd(t, x, l[at], false)
			}
			checkTree(t, x, l...)
			for i, at := range o.places {
				checkDel(t, x, l[at], true)
				checkDel(t, x, l[at], false)
				if x.Len() != len(l)-1-i {
					t.Fatalf("%s: Len = %d", o.name, x.Len())
				}
			}
			checkTree(t, x)
		}
	}
}

func TestKeyCountsAheadOfNumber(t *testing.T) {
	x := treeOf(t, entry("b", -5), entry("a", 9), entry("", math.MaxInt64), entry("ab", 0))
	checkTree(t, x, entry("", math.MaxInt64), entry("a", 9), entry("ab", 0), entry("b", -5))
	checkGone(t, x, []api.Entry{entry("", math.MaxInt64), entry("a", 9), entry("ab", 0), entry("b", -5)},
		entry("", 9), entry("a", 0), entry("a", math.MaxInt64), entry("a", -5), entry("ab", 9), entry("b", 0), entry("b", 9))
}

func TestDelTheOnlyEntry(t *testing.T) {
	for _, e := range append(slices.Clone(far), api.Entry{}, entry("a", 1)) {
		x := treeOf(t, e)
		checkDel(t, x, e, true)
		checkTree(t, x)
		checkDel(t, x, e, false)
		checkTree(t, x)
		checkAdd(t, x, e, true)
		checkTree(t, x, e)
	}
}

func TestDelOne(t *testing.T) {
	for n := range 60 {
		for _, e := range row(n) {
			x := treeOf(t, row(n)...)
			checkDel(t, x, e, true)
			checkTree(t, x, without(row(n), e)...)
			checkDel(t, x, e, false)
			checkTree(t, x, without(row(n), e)...)
			checkAdd(t, x, e, true)
			checkTree(t, x, row(n)...)
		}
	}
}

func TestDelOneThatIsNotThere(t *testing.T) {
	for n := range 60 {
		x := treeOf(t, row(n)...)
		checkGone(t, x, row(n), append(between(n), far...)...)
		checkGone(t, x, row(n), entry("", 0), entry("k\x00", 0), entry("j", 2), entry("l", 2), entry("K", 2), entry("kk", 2), entry("k", -2), entry("k", int64(2*n)))
	}
}

func TestAddedAnew(t *testing.T) {
	for _, o := range orders(70) {
		x := tree.New()
		for range 3 {
			for _, at := range o.places {
				checkAdd(t, x, row(70)[at], true)
			}
			checkTree(t, x, row(70)...)
			for _, at := range o.places {
				checkDel(t, x, row(70)[at], true)
			}
			checkTree(t, x)
		}
	}
}

func TestOneInOneOut(t *testing.T) {
	x := treeOf(t, row(40)...)
	for i := int64(40); i < 2000; i++ {
		checkAdd(t, x, entry("k", 2*i), true)
		checkDel(t, x, entry("k", 2*i-80), true)
		if x.Len() != 40 {
			t.Fatal(x.Len())
		}
		if i%50 == 0 {
			var want []api.Entry
			for j := i - 39; j <= i; j++ {
				want = append(want, entry("k", 2*j))
			}
			checkTree(t, x, want...)
		}
	}
}

func TestLongKeys(t *testing.T) {
	long := strings.Repeat("x", 5000)
	l := []api.Entry{entry(long, 1), entry(long+"\x00", 1), entry(long+"a", 0), entry(long+"a", 1), entry(long+"b", -1), entry(long+"b\xff", 0)}
	x := treeOf(t, l[3], l[0], l[5], l[1], l[4], l[2])
	checkTree(t, x, l...)
	checkGone(t, x, l, entry(long[1:], 1), entry(long, 2), entry(long+"x", 1), entry(long+"b\x00", 0))
}

// P8.2

func TestFirstAndLast(t *testing.T) {
	x := tree.New()
	var there []api.Entry
	for _, e := range []api.Entry{entry("m", 5), entry("n", 1), entry("c", 9), entry("m", 6), entry("c", -9), entry("x", 0), entry("x", -1), entry("", 7), entry("x", 3), entry("\xff", 0)} {
		checkAdd(t, x, e, true)
		there = with(there, e)
		for range 2 {
			first, ok := x.First()
			checkTold(t, "First", first, ok, there, 0)
			last, ok := x.Last()
			checkTold(t, "Last", last, ok, there, len(there)-1)
		}
	}
	checkTree(t, x, there...)
}

func TestFirstAndLastWhileTheyGo(t *testing.T) {
	x := treeOf(t, row(90)...)
	there := row(90)
	for len(there) > 0 {
		first, ok := x.First()
		checkTold(t, "First", first, ok, there, 0)
		checkDel(t, x, first, true)
		there = there[1:]
		last, ok := x.Last()
		checkTold(t, "Last", last, ok, there, len(there)-1)
		if ok {
			checkDel(t, x, last, true)
			there = there[:len(there)-1]
		}
		checkTree(t, x, there...)
	}
}

// A zero entry is one like any other: it is told beside true.
func TestZeroEntry(t *testing.T) {
	zero := api.Entry{}
	x := treeOf(t, entry("", 1), zero, entry("", -1))
	checkTree(t, x, entry("", -1), zero, entry("", 1))
	checkDel(t, x, entry("", -1), true)
	checkTree(t, x, zero, entry("", 1))
	checkDel(t, x, entry("", 1), true)
	checkTree(t, x, zero)
	checkGone(t, x, []api.Entry{zero}, entry("", 1), entry("", -1), entry("\x00", 0))
}

func TestAfterAndBeforeOfNone(t *testing.T) {
	emptied := treeOf(t, row(20)...)
	for _, e := range row(20) {
		checkDel(t, emptied, e, true)
	}
	for _, x := range []*tree.Tree{tree.New(), emptied} {
		for _, e := range append(append(between(3), row(20)...), append(far, api.Entry{})...) {
			checkAfter(t, x, e, nil, 0)
			checkBefore(t, x, e, nil, 0)
		}
	}
}

func TestAfterAndBefore(t *testing.T) {
	for n := range 60 {
		x, l := treeOf(t, row(n)...), row(n)
		for i, e := range between(n) {
			checkAfter(t, x, e, l, i)
			checkBefore(t, x, e, l, i-1)
		}
		for i, e := range l {
			checkAfter(t, x, e, l, i+1)
			checkBefore(t, x, e, l, i-1)
		}
		checkAfter(t, x, far[0], l, 0)
		checkBefore(t, x, far[0], l, -1)
		checkAfter(t, x, far[1], l, n)
		checkBefore(t, x, far[1], l, n-1)
	}
}

func TestAfterAndBeforeByKeys(t *testing.T) {
	l := keyed()
	x := treeOf(t, l...)
	for i, k := range keys {
		for _, id := range []int64{0, -1, math.MinInt64} {
			checkAfter(t, x, entry(k, id), l, i)
			checkBefore(t, x, entry(k, id), l, i-1)
		}
		for _, id := range []int64{2, 1 << 32, math.MaxInt64} {
			checkAfter(t, x, entry(k, id), l, i+1)
			checkBefore(t, x, entry(k, id), l, i)
		}
	}
}

func TestAfterIsNotHeldUpByWhatIsDeletedOnTheWay(t *testing.T) {
	x := treeOf(t, row(200)...)
	e := far[0]
	for i := range 200 {
		next, ok := x.After(e)
		checkTold(t, "After", next, ok, row(200), i)
		checkDel(t, x, next, true)
		e = next
	}
	checkAfter(t, x, e, nil, 0)
	checkTree(t, x)
}
