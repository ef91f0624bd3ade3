package key_test

import (
	"math"
	"reflect"
	"slices"
	"strings"
	"testing"

	"roundelay/api"
	"roundelay/key"
	"roundelay/value"
)

var (
	null = api.Value{}
	no   = api.Value{Kind: api.Bool}
	yes  = api.Value{Kind: api.Bool, Int: 1}
)

func num(n int64) api.Value { return api.Value{Kind: api.Int, Int: n} }

func txt(s string) api.Value { return api.Value{Kind: api.Text, Text: s} }

func list(vs ...api.Value) api.Value { return api.Value{Kind: api.List, List: vs} }

func obj(fs ...api.Field) api.Value { return api.Value{Kind: api.Object, Fields: fs} }

func field(name string, v api.Value) api.Field { return api.Field{Name: name, Value: v} }

// in is v in so many lists and objects, by turns.
func in(v api.Value, deep int) api.Value {
	for i := range deep {
		if i%2 == 0 {
			v = list(v)
		} else {
			v = obj(field("a", v))
		}
	}
	return v
}

// same tells whether two values are alike in all that they have, whether their kinds have it or not.
func same(a, b api.Value) bool {
	return a.Kind == b.Kind && a.Int == b.Int && a.Text == b.Text &&
		slices.EqualFunc(a.List, b.List, same) &&
		slices.EqualFunc(a.Fields, b.Fields, func(f, g api.Field) bool { return f.Name == g.Name && same(f.Value, g.Value) })
}

// pairs are values and their keys, byte by byte; the values rise.
func pairs() []struct {
	v   api.Value
	key string
} {
	return []struct {
		v   api.Value
		key string
	}{
		{null, "\x01"},
		{no, "\x02\x00"},
		{yes, "\x02\x01"},
		{num(math.MinInt64), "\x03\x00\x00\x00\x00\x00\x00\x00\x00"},
		{num(math.MinInt64 + 1), "\x03\x00\x00\x00\x00\x00\x00\x00\x01"},
		{num(-1 << 32), "\x03\x7f\xff\xff\xff\x00\x00\x00\x00"},
		{num(-257), "\x03\x7f\xff\xff\xff\xff\xff\xfe\xff"},
		{num(-256), "\x03\x7f\xff\xff\xff\xff\xff\xff\x00"},
		{num(-1), "\x03\x7f\xff\xff\xff\xff\xff\xff\xff"},
		{num(0), "\x03\x80\x00\x00\x00\x00\x00\x00\x00"},
		{num(1), "\x03\x80\x00\x00\x00\x00\x00\x00\x01"},
		{num(255), "\x03\x80\x00\x00\x00\x00\x00\x00\xff"},
		{num(256), "\x03\x80\x00\x00\x00\x00\x00\x01\x00"},
		{num(0x0102030405060708), "\x03\x81\x02\x03\x04\x05\x06\x07\x08"},
		{num(math.MaxInt64 - 1), "\x03\xff\xff\xff\xff\xff\xff\xff\xfe"},
		{num(math.MaxInt64), "\x03\xff\xff\xff\xff\xff\xff\xff\xff"},
		{txt(""), "\x04\x00\x01"},
		{txt("\x00"), "\x04\x00\xff\x00\x01"},
		{txt("\x00\x00"), "\x04\x00\xff\x00\xff\x00\x01"},
		{txt("\x00\x00\x00"), "\x04\x00\xff\x00\xff\x00\xff\x00\x01"},
		{txt("\x00\x00a"), "\x04\x00\xff\x00\xffa\x00\x01"},
		{txt("\x00\x01"), "\x04\x00\xff\x01\x00\x01"},
		{txt("\x00a"), "\x04\x00\xffa\x00\x01"},
		{txt("\x01"), "\x04\x01\x00\x01"},
		{txt("a"), "\x04a\x00\x01"},
		{txt("a\x00"), "\x04a\x00\xff\x00\x01"},
		{txt("a\x00\x00b"), "\x04a\x00\xff\x00\xffb\x00\x01"},
		{txt("a\x00b"), "\x04a\x00\xffb\x00\x01"},
		{txt("a\x01"), "\x04a\x01\x00\x01"},
		{txt("ab"), "\x04ab\x00\x01"},
		{txt("ab\x00"), "\x04ab\x00\xff\x00\x01"},
		{txt("b"), "\x04b\x00\x01"},
		{txt("é"), "\x04\xc3\xa9\x00\x01"},
		{txt("\U0010ffff"), "\x04\xf4\x8f\xbf\xbf\x00\x01"},
		{list(), "\x05\x00"},
		{list(null), "\x05\x01\x00"},
		{list(null, null), "\x05\x01\x01\x00"},
		{list(null, no), "\x05\x01\x02\x00\x00"},
		{list(no), "\x05\x02\x00\x00"},
		{list(no, null), "\x05\x02\x00\x01\x00"},
		{list(yes), "\x05\x02\x01\x00"},
		{list(num(-1)), "\x05\x03\x7f\xff\xff\xff\xff\xff\xff\xff\x00"},
		{list(num(0)), "\x05\x03\x80\x00\x00\x00\x00\x00\x00\x00\x00"},
		{list(txt("")), "\x05\x04\x00\x01\x00"},
		{list(txt(""), null), "\x05\x04\x00\x01\x01\x00"},
		{list(txt("\x00")), "\x05\x04\x00\xff\x00\x01\x00"},
		{list(txt("a"), txt("b")), "\x05\x04a\x00\x01\x04b\x00\x01\x00"},
		{list(list()), "\x05\x05\x00\x00"},
		{list(list(), null), "\x05\x05\x00\x01\x00"},
		{list(list(null)), "\x05\x05\x01\x00\x00"},
		{list(obj()), "\x05\x06\x00\x00"},
		{list(obj(), list()), "\x05\x06\x00\x05\x00\x00"},
		{obj(), "\x06\x00"},
		{obj(field("", null)), "\x06\x01\x00\x01\x01\x00"},
		{obj(field("", null), field("a", null)), "\x06\x01\x00\x01\x01\x01a\x00\x01\x01\x00"},
		{obj(field("", no)), "\x06\x01\x00\x01\x02\x00\x00"},
		{obj(field("\x00", null)), "\x06\x01\x00\xff\x00\x01\x01\x00"},
		{obj(field("\x00\x00", null)), "\x06\x01\x00\xff\x00\xff\x00\x01\x01\x00"},
		{obj(field("a", null)), "\x06\x01a\x00\x01\x01\x00"},
		{obj(field("a", num(1))), "\x06\x01a\x00\x01\x03\x80\x00\x00\x00\x00\x00\x00\x01\x00"},
		{obj(field("a", num(1)), field("b", null)), "\x06\x01a\x00\x01\x03\x80\x00\x00\x00\x00\x00\x00\x01\x01b\x00\x01\x01\x00"},
		{obj(field("a", num(2))), "\x06\x01a\x00\x01\x03\x80\x00\x00\x00\x00\x00\x00\x02\x00"},
		{obj(field("a", list())), "\x06\x01a\x00\x01\x05\x00\x00"},
		{obj(field("a", obj())), "\x06\x01a\x00\x01\x06\x00\x00"},
		{obj(field("a", obj(field("b", list(yes))))), "\x06\x01a\x00\x01\x06\x01b\x00\x01\x05\x02\x01\x00\x00\x00"},
		{obj(field("a\x00", null)), "\x06\x01a\x00\xff\x00\x01\x01\x00"},
		{obj(field("a\x00b", null)), "\x06\x01a\x00\xffb\x00\x01\x01\x00"},
		{obj(field("aa", null)), "\x06\x01aa\x00\x01\x01\x00"},
		{obj(field("é", txt("\x00"))), "\x06\x01\xc3\xa9\x00\x01\x04\x00\xff\x00\x01\x00"},
	}
}

// P5.1

func TestPut(t *testing.T) {
	for _, c := range pairs() {
		if got := key.Put(c.v); got != c.key {
			t.Errorf("Put(%v) = %q, want %q", c.v, got, c.key)
		}
	}
}

func TestPutOfListsThatAreNilOrEmpty(t *testing.T) {
	none, bare := []api.Value{}, []api.Field{}
	for _, c := range pairs() {
		v := c.v
		if len(v.List) == 0 {
			v.List = none
		}
		if len(v.Fields) == 0 {
			v.Fields = bare
		}
		if got := key.Put(v); got != c.key {
			t.Errorf("Put(%#v) = %q, want %q", v, got, c.key)
		}
	}
}

// What is deeper than Get reads is written, too.
func TestPutOfWhatIsDeep(t *testing.T) {
	v := null
	for range 99 {
		v = list(v)
	}
	if got, want := key.Put(v), strings.Repeat("\x05", 99)+"\x01"+strings.Repeat("\x00", 99); got != want {
		t.Errorf("Put of 99 lists = %q", got)
	}
}

func TestPutOfWhatIsLong(t *testing.T) {
	zeros := strings.Repeat("\x00", 1000)
	if got, want := key.Put(txt(zeros)), "\x04"+strings.Repeat("\x00\xff", 1000)+"\x00\x01"; got != want {
		t.Errorf("Put of 1000 bytes 0 = %q", got)
	}
	if got, want := key.Put(list(make([]api.Value, 1000)...)), "\x05"+strings.Repeat("\x01", 1000)+"\x00"; got != want {
		t.Errorf("Put of 1000 nulls = %q", got)
	}
}

func TestPutChangesNothing(t *testing.T) {
	fresh := func() api.Value {
		l := append(make([]api.Value, 0, 8), num(1), txt("a\x00"))
		return obj(field("a", list(l...)), field("b", obj(field("c", yes))))
	}
	v := fresh()
	if key.Put(v) != key.Put(v) || !reflect.DeepEqual(v, fresh()) {
		t.Errorf("%v was changed", v)
	}
}

// Of what is not Valid nothing is promised but that the call ends.
func TestPutOfWhatIsNotValidEnds(t *testing.T) {
	for _, v := range []api.Value{
		{Kind: -1}, {Kind: 6}, {Kind: math.MaxInt64}, {Kind: math.MinInt64},
		{Kind: api.Bool, Int: 2}, {Kind: api.Bool, Int: math.MinInt64},
		txt("\xff"), obj(field("b", null), field("a", null)), obj(field("\xff", api.Value{Kind: -5})),
		{Kind: api.Null, Int: 1, Text: "a", List: []api.Value{null}, Fields: []api.Field{field("a", null)}},
	} {
		key.Put(v)
		key.Put(list(v))
	}
}

// What follows of P5.1: the order, and that no key is the beginning of another one.

func checkOrder(t *testing.T, a, b api.Value) {
	t.Helper()
	x, y := key.Put(a), key.Put(b)
	if got, want := strings.Compare(x, y), value.Cmp(a, b); got != want {
		t.Errorf("keys of %v and %v stand %d, values %d", a, b, got, want)
	}
	if x != y && strings.HasPrefix(y, x) {
		t.Errorf("the key of %v is the beginning of that of %v", a, b)
	}
}

func TestKeysStandInTheOrderOfTheirValues(t *testing.T) {
	l := pairs()
	for i, a := range l {
		for k, b := range l {
			if (i < k) != (value.Cmp(a.v, b.v) < 0) {
				t.Fatalf("%v and %v do not rise", a.v, b.v)
			}
			checkOrder(t, a.v, b.v)
			checkOrder(t, list(a.v), list(b.v))
			checkOrder(t, list(a.v, b.v), list(a.v))
			checkOrder(t, list(a.v, yes), list(b.v, no))
			checkOrder(t, list(null, a.v), list(null, b.v, null))
			checkOrder(t, obj(field("a", a.v), field("b", no)), obj(field("a", b.v)))
			checkOrder(t, obj(field("a", a.v)), obj(field("a\x00", b.v)))
			checkOrder(t, in(a.v, 12), in(b.v, 12))
		}
	}
}

func TestTextsAndNamesStandInTheirOrder(t *testing.T) {
	var l []string
	parts := []string{"", "\x00", "\x01", "\x02", "a", "é", "\U0010ffff"}
	for _, a := range parts {
		for _, b := range parts {
			for _, c := range parts {
				l = append(l, a+b+c)
			}
		}
	}
	for _, a := range l {
		for _, b := range l {
			checkOrder(t, txt(a), txt(b))
			if a < b {
				checkOrder(t, obj(field(a, yes)), obj(field(b, no)))
				checkOrder(t, obj(field(b, no)), obj(field(a, yes), field(b, null)))
			}
		}
	}
}

// P5.2

func checkGet(t *testing.T, s string, want api.Value) {
	t.Helper()
	if got, ok := key.Get(s); !ok || !same(got, want) {
		t.Errorf("Get(%q) = %v, %t; want %v", s, got, ok, want)
	}
}

func checkNone(t *testing.T, s string) {
	t.Helper()
	if got, ok := key.Get(s); ok || !same(got, null) {
		t.Errorf("Get(%q) = %v, %t; want none", s, got, ok)
	}
}

func TestGetOfWhatPutWrote(t *testing.T) {
	for _, c := range pairs() {
		checkGet(t, c.key, c.v)
		for deep := range 10 {
			v := in(c.v, deep)
			checkGet(t, key.Put(v), v)
		}
	}
}

func TestGetOfWhatIsCutOff(t *testing.T) {
	for _, c := range pairs() {
		for n := range len(c.key) {
			checkNone(t, c.key[:n])
		}
		deep := key.Put(in(c.v, 5))
		for n := range len(deep) {
			checkNone(t, deep[:n])
		}
	}
}

func TestGetOfWhatHasMoreBehindIt(t *testing.T) {
	for _, c := range pairs() {
		for b := range 256 {
			checkNone(t, c.key+string([]byte{byte(b)}))
		}
		checkNone(t, c.key+c.key)
		checkNone(t, key.Behind(c.key))
	}
}

// checkNoneInside tells that s is wrong by itself, and wherever a value may stand: a Bool there is right.
func checkNoneInside(t *testing.T, s string) {
	t.Helper()
	for _, around := range [][2]string{
		{"", ""},
		{"\x05", "\x00"},
		{"\x05\x01", "\x00"},
		{"\x05", "\x01\x00"},
		{"\x06\x01a\x00\x01", "\x00"},
		{"\x06\x01a\x00\x01\x01\x01b\x00\x01", "\x00"},
		{"\x06\x01a\x00\x01", "\x01b\x00\x01\x01\x00"},
		{"\x05\x06\x01a\x00\x01\x05", "\x00\x00\x00"},
	} {
		mustGet(t, around[0]+"\x02\x01"+around[1])
		checkNone(t, around[0]+s+around[1])
	}
}

// mustGet is a value that has to be there.
func mustGet(t *testing.T, s string) api.Value {
	t.Helper()
	v, ok := key.Get(s)
	if !ok {
		t.Fatalf("Get(%q) finds none", s)
	}
	return v
}

func TestGetOfKindsThatAreNone(t *testing.T) {
	for b := 7; b < 256; b++ {
		checkNoneInside(t, string([]byte{byte(b)}))
		checkNone(t, string([]byte{byte(b), 0}))
		checkNone(t, string([]byte{byte(b), 0, 1}))
	}
	checkNone(t, "")
	checkNone(t, "\x00")
	checkNone(t, "\x00\x00")
	checkNone(t, "\x05\x00\x00")
}

func TestGetOfBoolsThatAreNone(t *testing.T) {
	for b := 2; b < 256; b++ {
		checkNoneInside(t, string([]byte{2, byte(b)}))
	}
}

func TestGetOfIntsThatAreShortOrLong(t *testing.T) {
	for n := range 20 {
		for _, b := range []string{"\x00", "\x80", "\xff"} {
			s := "\x03" + strings.Repeat(b, n)
			if n != 8 {
				checkNone(t, s)
			}
		}
	}
	checkNone(t, "\x05\x03\x80\x00\x00\x00\x00\x00\x00\x00")
}

func TestGetOfAByte0WithAWrongOneBehindIt(t *testing.T) {
	for b := range 255 {
		if b == 1 {
			continue
		}
		wrong := string([]byte{0, byte(b)})
		for _, s := range []string{wrong, "a" + wrong, wrong + "a", "\x00\xff" + wrong, wrong + "\x00\xff"} {
			checkNoneInside(t, "\x04"+s+"\x00\x01")
			checkNone(t, "\x04"+s)
			checkNone(t, "\x06\x01"+s+"\x00\x01\x01\x00")
			checkNone(t, "\x06\x01"+s+"\x01\x00")
		}
	}
	checkNone(t, "\x04\x00")
	checkNone(t, "\x04\x00\xff\x01")
	checkNone(t, "\x04\x00\xff")
	checkNone(t, "\x04\x01")
}

func TestGetOfWhatIsNoUTF8(t *testing.T) {
	for _, s := range []string{"\xff", "\x80", "a\xc3", "\xc3", "\xc0\x80", "\xe2\x82", "\xed\xa0\x80", "\xf4\x90\x80\x80", "é\xfe", "\xc3\x00\xff\xa9", "\x00\xff\xff", "\x00\xff\xff\x00\xff", "\xff\x00\xff"} {
		checkNoneInside(t, "\x04"+s+"\x00\x01")
		checkNoneInside(t, "\x04a"+s+"a\x00\x01")
		checkNoneInside(t, "\x06\x01"+s+"\x00\x01\x01\x00")
		checkNoneInside(t, "\x06\x01a"+s+"a\x00\x01\x01\x00")
		checkNoneInside(t, "\x06\x01\x00\x01\x01\x01"+s+"\x00\x01\x01\x00")
	}
}

// keyOf is what an object of these names would be written as, whether it may be or not.
func keyOf(names ...string) string {
	out := "\x06"
	for _, name := range names {
		out += "\x01" + strings.ReplaceAll(name, "\x00", "\x00\xff") + "\x00\x01\x01"
	}
	return out + "\x00"
}

func TestGetOfNamesThatDoNotRise(t *testing.T) {
	mustGet(t, keyOf("", "\x00", "\x00\x00", "\x00a", "\x01", "B", "a", "a\x00", "aa", "b", "é"))
	for _, names := range [][]string{
		{"b", "a"}, {"a", ""}, {"ab", "a"}, {"a", "B"}, {"é", "z"}, {"a\x00", "a"}, {"\x01", "\x00"}, {"\x00", ""}, {"a\x01", "a\x00"},
		{"a", "c", "b"}, {"b", "a", "c"}, {"a", "b", "a"}, {"c", "b", "a"},
		{"a", "a"}, {"", ""}, {"\x00", "\x00"}, {"a", "b", "b"}, {"a", "a", "b"}, {"é", "é"},
	} {
		checkNoneInside(t, keyOf(names...))
	}
	checkNone(t, "\x06\x01a\x00\x01\x02\x00\x01a\x00\x01\x02\x01\x00")
}

func TestGetOfFieldsWithAWrongByte(t *testing.T) {
	for b := 2; b < 256; b++ {
		s := string([]byte{byte(b)})
		checkNoneInside(t, "\x06"+s)
		checkNoneInside(t, "\x06"+s+"\x00")
		checkNoneInside(t, "\x06"+s+"a\x00\x01\x01\x00")
		checkNoneInside(t, "\x06\x01a\x00\x01\x01"+s+"b\x00\x01\x01\x00")
	}
	checkNone(t, "\x06\x01a\x00\x01\x00")
	checkNone(t, "\x06\x01\x00")
	checkNone(t, "\x06\x01\x00\x01\x00")
}

func TestGetOfWhatIsDeep(t *testing.T) {
	for _, c := range pairs() {
		depth := value.Depth(c.v)
		v := in(c.v, api.MaxDepth-depth)
		if value.Depth(v) != api.MaxDepth {
			t.Fatalf("%v is not so deep", v)
		}
		checkGet(t, key.Put(v), v)
		checkGet(t, key.Put(list(null, in(c.v, api.MaxDepth-depth-1), null)), list(null, in(c.v, api.MaxDepth-depth-1), null))
		for more := 1; more < 4; more++ {
			checkNone(t, key.Put(in(c.v, api.MaxDepth-depth+more)))
		}
		checkNone(t, key.Put(list(null, v)))
		checkNone(t, key.Put(list(v, null)))
		checkNone(t, key.Put(obj(field("a", null), field("b", v))))
		checkNone(t, key.Put(in(c.v, 97-depth)))
	}
	for deep := range 30 {
		s := strings.Repeat("\x05", deep) + strings.Repeat("\x00", deep)
		if _, ok := key.Get(s); ok != (deep >= 1 && deep <= api.MaxDepth) {
			t.Errorf("Get of %d lists = %t", deep, ok)
		}
	}
}

func TestGetOfWhatIsFarTooDeepEnds(t *testing.T) {
	const deep = 1 << 22
	for _, c := range []struct{ begin, end string }{
		{"\x05", ""}, {"\x06\x01\x00\x01", ""}, {"\x05\x06\x01a\x00\x01", ""}, {"\x05", "\x00"},
	} {
		got, ok := key.Get(strings.Repeat(c.begin, deep) + strings.Repeat(c.end, deep))
		if ok || !same(got, null) {
			t.Errorf("Get of %q and %q, %d times each, finds a value", c.begin, c.end, deep)
		}
	}
}

func TestGetOfWhatIsLong(t *testing.T) {
	var v api.Value
	for i := range 2000 {
		v.List = append(v.List, num(int64(i)))
	}
	v.Kind = api.List
	checkGet(t, key.Put(v), v)
	v = txt(strings.Repeat("\x00é\x01", 5000))
	checkGet(t, key.Put(v), v)
}

func TestListsOfAnAnswerShareNothing(t *testing.T) {
	v := obj(field("a", list(num(1), num(2))), field("b", list(num(1), num(2))), field("c", obj(field("a", list(num(1))))))
	s := key.Put(v)
	got := mustGet(t, s)
	l := got.Fields[0].Value.List
	l = l[:cap(l)]
	for i := range l {
		l[i] = txt("spoilt")
	}
	for _, i := range []int{1, 2} {
		if !same(got.Fields[i].Value, v.Fields[i].Value) {
			t.Errorf("lists of one answer share memory: %v", got)
		}
	}
	checkGet(t, s, v)
}

func TestBehind(t *testing.T) {
	for _, c := range []struct{ s, want string }{
		{"", "\x00"},
		{"\x00", "\x00\x00"},
		{"\x00\x00", "\x00\x00\x00"},
		{"a", "a\x00"},
		{"a\x00", "a\x00\x00"},
		{"\xff", "\xff\x00"},
		{"\xff\xff", "\xff\xff\x00"},
		{"\x03\x80", "\x03\x80\x00"},
	} {
		if got := key.Behind(c.s); got != c.want {
			t.Errorf("Behind(%q) = %q, want %q", c.s, got, c.want)
		}
	}
}

func TestBehindStandsBetweenAKeyAndTheNextOne(t *testing.T) {
	l := pairs()
	for i, c := range l {
		behind := key.Behind(c.key)
		if behind <= c.key || i+1 < len(l) && behind >= l[i+1].key {
			t.Errorf("Behind(%q) = %q does not stand there", c.key, behind)
		}
	}
}

func TestExamples(t *testing.T) {
	if got := key.Put(num(1)); got != string([]byte{3, 128, 0, 0, 0, 0, 0, 0, 1}) {
		t.Errorf("Put of the Int 1 = %q", got)
	}
}
