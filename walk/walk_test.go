package walk_test

import (
	"math"
	"slices"
	"strings"
	"testing"

	"roundelay/api"
	"roundelay/tree"
	"roundelay/walk"
)

func entry(key string, id int64) api.Entry { return api.Entry{Key: key, ID: id} }

// behind is the mark of one who was told e last.
func behind(e api.Entry) api.Mark { return api.Mark{Entry: e, Began: true} }

// above tells whether a stands behind b in a tree.
func above(a, b api.Entry) bool { return a.Key > b.Key || a.Key == b.Key && a.ID > b.ID }

func isIn(e api.Entry, r api.Range) bool {
	return e.Key >= r.From && (r.To == "" || e.Key < r.To)
}

// next is the document's own sentence: it looks at all entries, in whatever order they come, and keeps the best one.
func next(es []api.Entry, r api.Range, m api.Mark) (api.Entry, bool) {
	var out api.Entry
	found := false
	for _, e := range es {
		passed := m.Began && !above(e, m.Entry)
		better := above(out, e)
		if r.Down {
			passed = m.Began && !above(m.Entry, e)
			better = above(e, out)
		}
		if isIn(e, r) && !passed && (!found || better) {
			out, found = e, true
		}
	}
	return out, found
}

// part is all that is to be told of a range, in its order.
func part(es []api.Entry, r api.Range) []api.Entry {
	var out []api.Entry
	for _, e := range es {
		if isIn(e, r) {
			out = append(out, e)
		}
	}
	slices.SortFunc(out, func(a, b api.Entry) int {
		if above(a, b) != r.Down {
			return 1
		}
		return -1
	})
	return out
}

func treeOf(t *testing.T, es ...api.Entry) *tree.Tree {
	t.Helper()
	x := tree.New()
	for _, e := range es {
		add(t, x, e)
	}
	return x
}

func add(t *testing.T, x *tree.Tree, e api.Entry) {
	t.Helper()
	if !x.Add(e) {
		t.Fatalf("%v is there already", e)
	}
}

func del(t *testing.T, x *tree.Tree, e api.Entry) {
	t.Helper()
	if !x.Del(e) {
		t.Fatalf("%v is not there", e)
	}
}

func checkMark(t *testing.T, w *walk.Walk, want api.Mark) {
	t.Helper()
	for range 2 {
		if got := w.Mark(); got != want {
			t.Fatalf("Mark = %+v; want %+v", got, want)
		}
	}
}

// checkNext asks for the next one, which is to be told, and to be the mark then.
func checkNext(t *testing.T, w *walk.Walk, want api.Entry) {
	t.Helper()
	if e, ok := w.Next(); e != want || !ok {
		t.Fatalf("Next = %v, %t; want %v", e, ok, want)
	}
	checkMark(t, w, behind(want))
}

// checkNone asks for the next one, of which there is none, and nothing is to change by that.
func checkNone(t *testing.T, w *walk.Walk, m api.Mark) {
	t.Helper()
	for range 3 {
		if e, ok := w.Next(); e != (api.Entry{}) || ok {
			t.Fatalf("Next = %v, %t; want none", e, ok)
		}
		checkMark(t, w, m)
	}
}

// checkRest goes on to the end, one being where m tells.
func checkRest(t *testing.T, w *walk.Walk, m api.Mark, want ...api.Entry) {
	t.Helper()
	checkMark(t, w, m)
	for _, e := range want {
		checkNext(t, w, e)
		m = behind(e)
	}
	checkNone(t, w, m)
}

// checkPart goes through a range from its beginning on.
func checkPart(t *testing.T, x *tree.Tree, r api.Range, want ...api.Entry) {
	t.Helper()
	w := walk.New(x, r)
	if w == nil {
		t.Fatal("New is nil")
	}
	checkRest(t, w, api.Mark{}, want...)
}

// checkBoth goes through a range up, and down.
func checkBoth(t *testing.T, x *tree.Tree, from, to string, want ...api.Entry) {
	t.Helper()
	checkPart(t, x, api.Range{From: from, To: to}, want...)
	want = slices.Clone(want)
	slices.Reverse(want)
	checkPart(t, x, api.Range{From: from, To: to, Down: true}, want...)
}

// checkKeys is checkBoth of a tree that has an entry of each key, with its place as its number.
func checkKeys(t *testing.T, keys []string, from, to string, want ...string) {
	t.Helper()
	x := tree.New()
	for i, k := range keys {
		add(t, x, entry(k, int64(i)))
	}
	var es []api.Entry
	for _, k := range want {
		es = append(es, entry(k, int64(slices.Index(keys, k))))
	}
	checkBoth(t, x, from, to, es...)
}

// keys are texts in the order of their bytes: some begin with others, some are no UTF-8, and some would stand elsewhere by how long they are, by their characters, or by their bytes with signs.
var keys = []string{"", "\x00", "\x00\x00", "\x00\x01", "\x00\xff", "\x01", "0", "10", "9", "A", "a", "a\x00", "a\x00a", "a\x01", "aa", "aé", "a\xff", "b", "ba", "\x7f", "\x80", "é", "é\x00", "\xc3\xff", "￿", "𐀀", "\xfe", "\xff", "\xff\x00", "\xff\xff"}

// numbers are of one key, in order.
var numbers = []int64{math.MinInt64, math.MinInt64 + 1, -1 << 32, -10, -9, -2, -1, 0, 1, 2, 9, 10, 1 << 31, 1 << 32, math.MaxInt64 - 1, math.MaxInt64}

// ofKeys are entries of each of these keys, in order.
func ofKeys(keys []string, ids ...int64) []api.Entry {
	var out []api.Entry
	for _, k := range keys {
		for _, id := range ids {
			out = append(out, entry(k, id))
		}
	}
	return out
}

// row has n entries, every other number of one key, so that there is one between any two of them.
func row(n int) []api.Entry {
	var out []api.Entry
	for i := range n {
		out = append(out, entry("k", int64(2*i)))
	}
	return out
}

// ranges are all that can be made of these texts, up and down.
func ranges(texts []string) []api.Range {
	var out []api.Range
	for _, from := range texts {
		for _, to := range texts {
			out = append(out, api.Range{From: from, To: to}, api.Range{From: from, To: to, Down: true})
		}
	}
	return out
}

func TestListsAreInOrder(t *testing.T) {
	for _, l := range [][]api.Entry{ofKeys(keys, -1, 1), ofKeys([]string{"a"}, numbers...), row(9)} {
		for i := 1; i < len(l); i++ {
			if !above(l[i], l[i-1]) {
				t.Errorf("%v does not stand above %v", l[i], l[i-1])
			}
		}
	}
}

// P9.1: what is in a range

func TestExample(t *testing.T) {
	x := treeOf(t, entry("b", 2), entry("a", 1), entry("c", 3))
	checkPart(t, x, api.Range{From: "b", Down: true}, entry("c", 3), entry("b", 2))
	checkPart(t, x, api.Range{From: "b"}, entry("b", 2), entry("c", 3))
}

func TestRanges(t *testing.T) {
	abcde := []string{"a", "b", "c", "d", "e"}
	for _, c := range []struct{ from, to, want string }{
		// all
		{"", "", "abcde"},
		// From alone: below all, one that is there, between two, the last one, above all
		{"A", "", "abcde"}, {"a", "", "abcde"}, {"aa", "", "bcde"}, {"b", "", "bcde"}, {"bz", "", "cde"}, {"e", "", "e"}, {"e\x00", "", ""}, {"f", "", ""}, {"\xff", "", ""},
		// To alone
		{"", "A", ""}, {"", "a", ""}, {"", "a\x00", "a"}, {"", "aa", "a"}, {"", "b", "a"}, {"", "c", "ab"}, {"", "e", "abcd"}, {"", "e\x00", "abcde"}, {"", "f", "abcde"}, {"", "\xff", "abcde"}, {"", "\x00", ""},
		// both
		{"a", "e", "abcd"}, {"b", "d", "bc"}, {"b", "c", "b"}, {"bb", "d", "c"}, {"b", "dd", "bcd"}, {"bb", "dd", "cd"}, {"bb", "c", ""}, {"bb", "bc", ""}, {"A", "f", "abcde"}, {"b", "b\x00", "b"}, {"d", "z", "de"}, {"A", "B", ""}, {"x", "z", ""},
		// the same
		{"a", "a", ""}, {"c", "c", ""}, {"e", "e", ""}, {"bb", "bb", ""}, {"z", "z", ""},
		// From above To
		{"d", "b", ""}, {"e", "a", ""}, {"b", "a", ""}, {"dd", "bb", ""}, {"bc", "bb", ""}, {"z", "A", ""}, {"c\x00", "c", ""},
	} {
		var want []string
		if c.want != "" {
			want = strings.Split(c.want, "")
		}
		checkKeys(t, abcde, c.from, c.to, want...)
	}
}

// Of keys a shorter one stands below those that it begins; an empty To is no key at all.
func TestKeysThatBeginOthers(t *testing.T) {
	keys := []string{"", "a", "a\x00", "aa", "aab", "ab", "b"}
	checkKeys(t, keys, "", "", keys...)
	checkKeys(t, keys, "a", "", "a", "a\x00", "aa", "aab", "ab", "b")
	checkKeys(t, keys, "a", "b", "a", "a\x00", "aa", "aab", "ab")
	checkKeys(t, keys, "a", "a\x00", "a")
	checkKeys(t, keys, "a\x00", "aa", "a\x00")
	checkKeys(t, keys, "a\x00", "", "a\x00", "aa", "aab", "ab", "b")
	checkKeys(t, keys, "aa", "ab", "aa", "aab")
	checkKeys(t, keys, "aab", "aa")
	checkKeys(t, keys, "aa", "aab", "aa")
	checkKeys(t, keys, "aa", "a")
	checkKeys(t, keys, "", "a", "")
	checkKeys(t, keys, "", "\x00", "")
	checkKeys(t, keys, "", "aa", "", "a", "a\x00")
	checkKeys(t, keys, "\x00", "a\x00", "a")
}

func TestEmptyKeyAlone(t *testing.T) {
	x := treeOf(t, entry("", 3))
	checkBoth(t, x, "", "", entry("", 3))
	checkBoth(t, x, "", "\x00", entry("", 3))
	checkBoth(t, x, "", "a", entry("", 3))
	checkBoth(t, x, "\x00", "")
	checkBoth(t, x, "\x00", "a")
}

// A zero entry is one like any other: it is told beside true, and a mark tells that it was.
func TestZeroEntry(t *testing.T) {
	checkBoth(t, treeOf(t, api.Entry{}), "", "", api.Entry{})
	checkBoth(t, treeOf(t, entry("", -1), api.Entry{}, entry("", 1)), "", "", entry("", -1), api.Entry{}, entry("", 1))
	checkBoth(t, treeOf(t, entry("", -1), api.Entry{}, entry("", 1), entry("a", 0)), "", "a", entry("", -1), api.Entry{}, entry("", 1))
}

func TestNumbersOfOneKey(t *testing.T) {
	l := ofKeys([]string{"a"}, numbers...)
	shuffled := slices.Concat(l[9:], l[:3], l[6:9], l[3:6])
	x := treeOf(t, shuffled...)
	for _, r := range [][2]string{{"", ""}, {"a", ""}, {"a", "b"}, {"a", "a\x00"}, {"", "a\x00"}, {"", "b"}, {"A", ""}} {
		checkBoth(t, x, r[0], r[1], l...)
	}
	for _, r := range [][2]string{{"", "a"}, {"a", "a"}, {"a\x00", ""}, {"aa", "b"}, {"b", ""}, {"b", "a"}, {"", "A"}} {
		checkBoth(t, x, r[0], r[1])
	}
}

// The least and the greatest number of a key stand on the same side of a bound as all others of that key.
func TestNumbersAtTheBounds(t *testing.T) {
	ids := []int64{math.MinInt64, -1, 0, 1, math.MaxInt64}
	x := treeOf(t, ofKeys([]string{"a", "b", "c", "d"}, ids...)...)
	checkBoth(t, x, "b", "d", ofKeys([]string{"b", "c"}, ids...)...)
	checkBoth(t, x, "b", "c", ofKeys([]string{"b"}, ids...)...)
	checkBoth(t, x, "b", "", ofKeys([]string{"b", "c", "d"}, ids...)...)
	checkBoth(t, x, "", "c", ofKeys([]string{"a", "b"}, ids...)...)
	checkBoth(t, x, "b", "b")
	checkBoth(t, x, "c", "b")
	for _, id := range ids {
		alone := treeOf(t, entry("b", id))
		checkBoth(t, alone, "b", "", entry("b", id))
		checkBoth(t, alone, "b", "c", entry("b", id))
		checkBoth(t, alone, "", "b\x00", entry("b", id))
		checkBoth(t, alone, "", "b")
		checkBoth(t, alone, "a", "b")
		checkBoth(t, alone, "b\x00", "")
		checkBoth(t, alone, "b", "b")
	}
}

func TestAllRangesOfKeys(t *testing.T) {
	for _, ids := range [][]int64{{0}, {math.MinInt64, 5}} {
		l := ofKeys(keys, ids...)
		x := treeOf(t, l...)
		for _, r := range ranges(append(slices.Clone(keys), "Z", "a\x00\x00", "ab", "\xc3", "\xff\xff\xff")) {
			checkPart(t, x, r, part(l, r)...)
		}
	}
}

func TestLongKeys(t *testing.T) {
	long := strings.Repeat("x", 5000)
	keys := []string{long, long + "\x00", long + "a", long + "b"}
	checkKeys(t, keys, long+"\x00", long+"b", long+"\x00", long+"a")
	checkKeys(t, keys, long, long+"\x00", long)
	checkKeys(t, keys, long[1:], long)
	checkKeys(t, keys, long[1:], "", keys...)
}

// P9.1: how many entries there are

func TestNoEntries(t *testing.T) {
	emptied := treeOf(t, row(20)...)
	for _, e := range row(20) {
		del(t, emptied, e)
	}
	for _, x := range []*tree.Tree{tree.New(), emptied} {
		for _, r := range ranges([]string{"", "\x00", "a", "k", "z"}) {
			checkPart(t, x, r)
		}
	}
}

func TestOneEntry(t *testing.T) {
	for _, e := range ofKeys(keys, math.MinInt64, -1, 0, 1, math.MaxInt64) {
		x := treeOf(t, e)
		checkBoth(t, x, "", "", e)
		checkBoth(t, x, e.Key, "", e)
		checkBoth(t, x, "", e.Key+"\x00", e)
		checkBoth(t, x, e.Key, e.Key+"\x00", e)
		checkBoth(t, x, e.Key+"\x00", "")
		if e.Key != "" {
			checkBoth(t, x, "", e.Key)
			checkBoth(t, x, e.Key, e.Key)
		}
	}
}

func TestManyEntries(t *testing.T) {
	for n := range 60 {
		checkBoth(t, treeOf(t, row(n)...), "", "", row(n)...)
	}
	checkBoth(t, treeOf(t, row(3000)...), "k", "l", row(3000)...)
	var es []api.Entry
	var texts []string
	for i := range 26 * 26 {
		texts = append(texts, string([]byte{'a' + byte(i/26), 'a' + byte(i%26)}))
		es = append(es, entry(texts[i], int64(-i)))
	}
	x := treeOf(t, es...)
	for from := 0; from < len(es); from += 37 {
		checkBoth(t, x, texts[from], "", es[from:]...)
		checkBoth(t, x, "", texts[from]+"\x00", es[:from+1]...)
		for to := from; to < len(es); to += 61 {
			checkBoth(t, x, texts[from], texts[to], es[from:to]...)
			checkBoth(t, x, texts[to]+"a", texts[from])
		}
	}
}

// P9.1: where one is

func TestMarkAheadOfAll(t *testing.T) {
	for _, n := range []int{0, 1, 50} {
		x := treeOf(t, row(n)...)
		for _, r := range ranges([]string{"", "a", "k", "z"}) {
			checkMark(t, walk.New(x, r), api.Mark{})
			checkMark(t, walk.Resume(x, r, api.Mark{}), api.Mark{})
		}
	}
}

func TestMarkBehindEach(t *testing.T) {
	x := treeOf(t, entry("b", 2), entry("a", 5), entry("b", -2), entry("c", 0))
	up := walk.New(x, api.Range{To: "c"})
	checkNext(t, up, entry("a", 5))
	checkNext(t, up, entry("b", -2))
	checkNext(t, up, entry("b", 2))
	checkNone(t, up, behind(entry("b", 2)))
	down := walk.New(x, api.Range{From: "b", Down: true})
	checkNext(t, down, entry("c", 0))
	checkNext(t, down, entry("b", 2))
	checkNext(t, down, entry("b", -2))
	checkNone(t, down, behind(entry("b", -2)))
}

func TestMarkIsNotNeeded(t *testing.T) {
	x := treeOf(t, row(300)...)
	for _, r := range ranges([]string{"", "k", "l"}) {
		w := walk.New(x, r)
		want := part(row(300), r)
		for _, e := range want {
			if got, ok := w.Next(); got != e || !ok {
				t.Fatalf("%+v: Next = %v, %t; want %v", r, got, ok, e)
			}
		}
		if got, ok := w.Next(); got != (api.Entry{}) || ok {
			t.Fatalf("%+v: Next = %v, %t; want none", r, got, ok)
		}
		if len(want) > 0 {
			checkMark(t, w, behind(want[len(want)-1]))
		}
	}
}

func TestBehindTheEnd(t *testing.T) {
	x := treeOf(t, row(10)...)
	for _, r := range []api.Range{{}, {From: "k"}, {To: "l", Down: true}} {
		want := part(row(10), r)
		w := walk.New(x, r)
		for _, e := range want {
			checkNext(t, w, e)
		}
		for range 20 {
			checkNone(t, w, behind(want[9]))
		}
	}
	for _, r := range []api.Range{{From: "l"}, {To: "k", Down: true}, {From: "k", To: "k"}} {
		w := walk.New(x, r)
		for range 20 {
			checkNone(t, w, api.Mark{})
		}
	}
}
