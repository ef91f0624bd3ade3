package value_test

import (
	"math"
	"math/rand"
	"reflect"
	"slices"
	"testing"

	"roundelay/api"
	"roundelay/value"
)

var (
	null = api.Value{}
	no   = api.Value{Kind: api.Bool}
	yes  = api.Value{Kind: api.Bool, Int: 1}
)

func num(n int64) api.Value { return api.Value{Kind: api.Int, Int: n} }

func txt(s string) api.Value { return api.Value{Kind: api.Text, Text: s} }

func list(vs ...api.Value) api.Value { return api.Value{Kind: api.List, List: vs} }

func obj(fs ...api.Field) api.Value { return api.Value{Kind: api.Object, Fields: fs} }

func field(name string, v api.Value) api.Field { return api.Field{Name: name, Value: v} }

// in is v in so many lists and objects, by turns.
func in(v api.Value, deep int) api.Value {
	for i := range deep {
		if i%2 == 0 {
			v = list(v)
		} else {
			v = obj(field("a", v))
		}
	}
	return v
}

// more is v with things beside it that a kind may have, or may not.
func more(v api.Value, n int64, s string, l []api.Value, fs []api.Field) api.Value {
	v.Int, v.Text, v.List, v.Fields = v.Int+n, v.Text+s, append(slices.Clone(v.List), l...), append(slices.Clone(v.Fields), fs...)
	return v
}

// notUTF8 are texts that are none.
var notUTF8 = []string{"\xff", "\x80", "a\xc3", "\xc0\x80", "\xe2\x82", "\xed\xa0\x80", "\xf4\x90\x80\x80", "é\xfe"}

// P3.1

// good are Valid values, how deep and how great they are.
var good = []struct {
	v           api.Value
	depth, size int
}{
	{null, 1, 1},
	{no, 1, 1},
	{yes, 1, 1},
	{num(0), 1, 1},
	{num(2), 1, 1},
	{num(math.MinInt64), 1, 1},
	{num(math.MaxInt64), 1, 1},
	{txt(""), 1, 1},
	{txt("a"), 1, 2},
	{txt("a\x00\"b"), 1, 5},
	{txt("é"), 1, 3},
	{txt("\U0010ffff\ufffd"), 1, 8},
	{list(), 1, 1},
	{api.Value{Kind: api.List, List: []api.Value{}}, 1, 1},
	{list(null), 2, 2},
	{list(num(2), num(1), num(2)), 2, 4},
	{list(txt("abc"), list(), txt("é")), 2, 9},
	{list(list(list()), list()), 3, 4},
	{list(list(), list(list(num(1)))), 4, 5},
	{obj(), 1, 1},
	{api.Value{Kind: api.Object, Fields: []api.Field{}}, 1, 1},
	{obj(field("", null)), 2, 2},
	{obj(field("abc", yes)), 2, 5},
	{obj(field("", num(1)), field("a", num(1)), field("aa", num(1)), field("b", num(1))), 2, 9},
	{obj(field("B", num(1)), field("a", num(1)), field("z", num(1)), field("é", num(1))), 2, 10},
	{obj(field("a", list(txt("xy"))), field("b", null)), 3, 8},
	{obj(field("a", null), field("b", obj(field("a", obj(field("a", null)))))), 4, 9},
	{in(null, 99), 100, 149},
	{api.Value{Kind: api.Null, List: []api.Value{}, Fields: []api.Field{}}, 1, 1},
}

func TestValidTellsGoodValues(t *testing.T) {
	for _, c := range good {
		if !value.Valid(c.v) {
			t.Errorf("Valid(%v) = false", c.v)
		}
	}
}

func TestDepthAndSize(t *testing.T) {
	for _, c := range good {
		if got := value.Depth(c.v); got != c.depth {
			t.Errorf("Depth(%v) = %d, want %d", c.v, got, c.depth)
		}
		if got := value.Size(c.v); got != c.size {
			t.Errorf("Size(%v) = %d, want %d", c.v, got, c.size)
		}
	}
}

// bad are values that are not Valid by themselves.
func bad() []api.Value {
	out := []api.Value{
		{Kind: -1},
		{Kind: 6},
		{Kind: 7},
		{Kind: math.MaxInt64},
		{Kind: math.MinInt64},
		{Kind: api.Bool, Int: 2},
		{Kind: api.Bool, Int: -1},
		{Kind: api.Bool, Int: 1 << 32},
		{Kind: api.Bool, Int: math.MinInt64},
		obj(field("b", null), field("a", null)),
		obj(field("a", null), field("a", null)),
		obj(field("a", null), field("a", num(1))),
		obj(field("", null), field("", null)),
		obj(field("a", null), field("b", null), field("a", null)),
		obj(field("a", null), field("c", null), field("b", null)),
		obj(field("a", null), field("b", null), field("b", null)),
		obj(field("a", null), field("B", null)),
		obj(field("ab", null), field("a", null)),
		obj(field("é", null), field("z", null)),
	}
	for _, s := range notUTF8 {
		out = append(out, txt(s), txt("a"+s), txt(s+"a"), obj(field(s, null)), obj(field("", null), field(s, null)))
	}
	return out
}

func TestValidTellsBadValues(t *testing.T) {
	for _, v := range bad() {
		if value.Valid(v) {
			t.Errorf("Valid(%+v) = true", v)
		}
	}
}

func TestValidLooksAtAllThatIsInIt(t *testing.T) {
	for _, v := range bad() {
		for _, w := range []api.Value{
			list(v), list(v, null), list(null, v), list(null, v, null), list(list(), list(v)),
			obj(field("a", v)), obj(field("a", v), field("b", null)), obj(field("a", null), field("b", v)), obj(field("a", obj(field("b", v)))),
			list(obj(field("a", v))), obj(field("a", list(v))), in(v, 90),
		} {
			if value.Valid(w) {
				t.Errorf("Valid(%+v) = true", w)
			}
		}
	}
}

func TestValidTellsWhatAKindDoesNotHave(t *testing.T) {
	l, fs := []api.Value{null}, []api.Field{field("a", null)}
	for kind := api.Null; kind <= api.Object; kind++ {
		v := api.Value{Kind: kind}
		for what, c := range map[string]struct {
			v    api.Value
			want bool
		}{
			"nothing": {v, true},
			"Int":     {more(v, 1, "", nil, nil), kind == api.Bool || kind == api.Int},
			"Int -1":  {more(v, -1, "", nil, nil), kind == api.Int},
			"Text":    {more(v, 0, "a", nil, nil), kind == api.Text},
			"List":    {more(v, 0, "", l, nil), kind == api.List},
			"Fields":  {more(v, 0, "", nil, fs), kind == api.Object},
			"all":     {more(v, 1, "a", l, fs), false},
		} {
			if got := value.Valid(c.v); got != c.want {
				t.Errorf("Valid of kind %d with %s = %t, want %t", kind, what, got, c.want)
			}
			if got := value.Valid(list(c.v)); got != c.want {
				t.Errorf("Valid of a list of kind %d with %s = %t, want %t", kind, what, got, c.want)
			}
			if got := value.Valid(obj(field("a", c.v))); got != c.want {
				t.Errorf("Valid of an object of kind %d with %s = %t, want %t", kind, what, got, c.want)
			}
		}
	}
}

// spare is a value with all that its kind does not have, at each place in it; salt makes it another one.
func spare(v api.Value, salt int64) api.Value {
	if v.Kind != api.Bool && v.Kind != api.Int {
		v.Int = salt
	}
	if v.Kind != api.Text {
		v.Text = string(rune('a' + salt%20))
	}
	l := []api.Value{num(salt), in(null, 5)}
	if v.Kind == api.List {
		l = nil
		for i, x := range v.List {
			l = append(l, spare(x, salt+int64(i)))
		}
	}
	fs := []api.Field{field("long name", in(num(salt), 7)), field("a", null)}
	if v.Kind == api.Object {
		fs = nil
		for i, f := range v.Fields {
			fs = append(fs, field(f.Name, spare(f.Value, salt+int64(i))))
		}
	}
	v.List, v.Fields = l, fs
	return v
}

func TestDepthAndSizeOfWhatTheKindHasAlone(t *testing.T) {
	for _, c := range good {
		v := spare(c.v, 3)
		if d, s := value.Depth(v), value.Size(v); d != c.depth || s != c.size {
			t.Errorf("Depth, Size(%v) = %d, %d, want %d, %d", v, d, s, c.depth, c.size)
		}
	}
	for _, kind := range []api.Kind{-1, 6, math.MaxInt64, math.MinInt64} {
		v := spare(api.Value{Kind: kind}, 3)
		if d, s := value.Depth(v), value.Size(v); d != 1 || s != 1 {
			t.Errorf("Depth, Size of kind %d = %d, %d, want 1, 1", kind, d, s)
		}
	}
}

func TestDepthAndSizeOfWhatIsNotValid(t *testing.T) {
	v := obj(field("b", txt("\xff")), field("a", list(null)), field("a", obj(field("\xff\xff", null))))
	if d, s := value.Depth(v), value.Size(v); d != 3 || s != 12 {
		t.Errorf("Depth, Size = %d, %d, want 3, 12", d, s)
	}
}

// P3.2

// rising are values, each one below the next one.
func rising() []api.Value {
	return []api.Value{
		{Kind: math.MinInt64},
		{Kind: -1},
		null,
		{Kind: api.Bool, Int: math.MinInt64}, no, yes, {Kind: api.Bool, Int: 2},
		num(math.MinInt64), num(math.MinInt64 + 1), num(-1), num(0), num(1), num(2), num(10), num(1 << 53), num(1<<53 + 1), num(math.MaxInt64 - 1), num(math.MaxInt64),
		txt(""), txt("\x00"), txt("\x00\x00"), txt("10"), txt("9"), txt("B"), txt("a"), txt("a\x00"), txt("aa"), txt("ab"), txt("b"), txt("z"), txt("é"), txt("\uffff"), txt("\U00010000"), txt("\xff"),
		list(), list(null), list(null, null), list(null, list()), list(no), list(num(1)), list(num(1), null, num(0)), list(num(1), num(0)), list(num(2)), list(txt("")), list(list()), list(list(), null), list(list(null)), list(list(null, null)), list(list(no)), list(obj()), list(obj(), obj()), list(obj(field("", null))),
		obj(), obj(field("", null)), obj(field("", null), field("a", null)), obj(field("", num(5))), obj(field("a", null)), obj(field("a", null), field("b", null)), obj(field("a", num(1))), obj(field("a", num(1)), field("b", num(0))), obj(field("a", num(1)), field("c", null)), obj(field("a", num(2))), obj(field("a", list())), obj(field("a", list(num(1)))), obj(field("a", obj())), obj(field("a", obj(field("a", null)))), obj(field("aa", null)), obj(field("b", null)), obj(field("b", num(0))), obj(field("b", num(0)), field("a", null)), obj(field("é", null)),
		{Kind: 6},
		{Kind: 7},
		{Kind: math.MaxInt64},
	}
}

func checkCmp(t *testing.T, a, b api.Value, want int) {
	t.Helper()
	if got := value.Cmp(a, b); got != want {
		t.Errorf("Cmp(%+v, %+v) = %d, want %d", a, b, got, want)
	}
	if got := value.Same(a, b); got != (want == 0) {
		t.Errorf("Same(%+v, %+v) = %t", a, b, got)
	}
}

func sign(n int) int {
	switch {
	case n < 0:
		return -1
	case n > 0:
		return 1
	}
	return 0
}

func TestCmpOfEachPair(t *testing.T) {
	l := rising()
	for i, a := range l {
		for k, b := range l {
			checkCmp(t, a, b, sign(i-k))
			checkCmp(t, list(a), list(b), sign(i-k))
			checkCmp(t, obj(field("a", a), field("b", yes)), obj(field("a", b), field("b", no)), sign(2*(i-k)+1))
			checkCmp(t, list(null, a, no), list(null, b, yes), sign(2*(i-k)-1))
		}
	}
}

func TestCmpOfWhatTheKindHasAlone(t *testing.T) {
	l := rising()
	for i, a := range l {
		for k, b := range l {
			checkCmp(t, spare(a, 1), spare(b, 2), sign(i-k))
			checkCmp(t, spare(a, 2), spare(b, 1), sign(i-k))
		}
		checkCmp(t, spare(a, 4), a, 0)
	}
}

func TestCmpOfWhatIsDeep(t *testing.T) {
	l := rising()
	for i := 1; i < len(l); i++ {
		checkCmp(t, in(l[i-1], 95), in(l[i], 95), -1)
		checkCmp(t, in(l[i], 95), in(l[i-1], 95), 1)
		checkCmp(t, in(l[i], 95), in(l[i], 95), 0)
	}
}

func TestExamples(t *testing.T) {
	one := obj(field("a", num(1)))
	checkCmp(t, one, obj(field("a", num(2))), -1)
	checkCmp(t, one, obj(field("b", num(0))), -1)
	checkCmp(t, one, list(num(5)), 1)
}

// anyValue makes a value out of few things, so that two of them are often alike.
func anyValue(r *rand.Rand, deep int) api.Value {
	kinds := 6
	if deep == 0 {
		kinds = 4
	}
	switch kind := api.Kind(r.Intn(kinds)); kind {
	case api.Bool, api.Int:
		return api.Value{Kind: kind, Int: int64(r.Intn(2))}
	case api.Text:
		return txt([]string{"", "a", "ab", "b"}[r.Intn(4)])
	case api.List:
		v := list()
		for range r.Intn(4) {
			v.List = append(v.List, anyValue(r, deep-1))
		}
		return v
	case api.Object:
		v := obj()
		for _, name := range []string{"", "a", "ab", "b"} {
			if r.Intn(2) == 0 {
				v.Fields = append(v.Fields, field(name, anyValue(r, deep-1)))
			}
		}
		return v
	}
	return null
}

// marks is a value as numbers: lists of them stand in the order of their values. An end is below all else.
func marks(v api.Value) []int {
	const end, kinds, bytes = 0, 10, 20
	out := []int{kinds + int(v.Kind)}
	name := func(s string) {
		for i := range len(s) {
			out = append(out, bytes+int(s[i]))
		}
		out = append(out, end)
	}
	switch v.Kind {
	case api.Bool, api.Int:
		out = append(out, int(v.Int))
	case api.Text:
		name(v.Text)
	case api.List:
		for _, x := range v.List {
			out = append(out, marks(x)...)
		}
		out = append(out, end)
	case api.Object:
		for _, f := range v.Fields {
			out = append(out, 1)
			name(f.Name)
			out = append(out, marks(f.Value)...)
		}
		out = append(out, end)
	}
	return out
}

func TestCmpAgainstLists(t *testing.T) {
	r := rand.New(rand.NewSource(3))
	var seen [3]int
	for range 50000 {
		a, b := anyValue(r, 3), anyValue(r, 3)
		want := slices.Compare(marks(a), marks(b))
		seen[1+want]++
		checkCmp(t, a, b, want)
		checkCmp(t, b, a, -want)
		if !value.Valid(a) || value.Size(a) < value.Depth(a) {
			t.Errorf("%v is not Valid, or too small", a)
		}
	}
	if slices.Min(seen[:]) < 1000 {
		t.Errorf("too few of one answer: %v", seen)
	}
}

// P3.3

func same(a, b api.Value) bool {
	return a.Kind == b.Kind && a.Int == b.Int && a.Text == b.Text &&
		slices.EqualFunc(a.List, b.List, same) &&
		slices.EqualFunc(a.Fields, b.Fields, func(f, g api.Field) bool { return f.Name == g.Name && same(f.Value, g.Value) })
}

func checkGet(t *testing.T, v api.Value, name string, want api.Value, there bool) {
	t.Helper()
	if got, ok := value.Get(v, name); !same(got, want) || ok != there {
		t.Errorf("Get(%v, %q) = %v, %t; want %v, %t", v, name, got, ok, want, there)
	}
}

func checkSet(t *testing.T, v api.Value, name string, x, want api.Value) {
	t.Helper()
	if got := value.Set(v, name, x); !same(got, want) {
		t.Errorf("Set(%v, %q, %v) = %v; want %v", v, name, x, got, want)
	}
}

func checkDel(t *testing.T, v api.Value, name string, want api.Value, there bool) {
	t.Helper()
	if got, ok := value.Del(v, name); !same(got, want) || ok != there {
		t.Errorf("Del(%v, %q) = %v, %t; want %v, %t", v, name, got, ok, want, there)
	}
}

func TestFieldThatIsThere(t *testing.T) {
	b, d, f := field("b", list(num(1))), field("d", null), field("f", obj(field("d", num(3))))
	v := obj(b, d, f)
	checkGet(t, v, "b", list(num(1)), true)
	checkGet(t, v, "d", null, true)
	checkGet(t, v, "f", obj(field("d", num(3))), true)
	checkSet(t, v, "b", num(9), obj(field("b", num(9)), d, f))
	checkSet(t, v, "d", num(9), obj(b, field("d", num(9)), f))
	checkSet(t, v, "f", num(9), obj(b, d, field("f", num(9))))
	checkSet(t, v, "d", null, v)
	checkSet(t, v, "d", v, obj(b, field("d", v), f))
	checkDel(t, v, "b", obj(d, f), true)
	checkDel(t, v, "d", obj(b, f), true)
	checkDel(t, v, "f", obj(b, d), true)
	checkDel(t, obj(b), "b", obj(), true)
	checkGet(t, obj(field("", yes)), "", yes, true)
	checkSet(t, obj(field("", yes)), "", no, obj(field("", no)))
	checkDel(t, obj(field("", yes)), "", obj(), true)
}

func TestFieldThatIsNotThere(t *testing.T) {
	b, d, f := field("b", num(1)), field("d", num(2)), field("f", num(3))
	v, x := obj(b, d, f), list(txt("x"))
	for at, names := range [][]string{{"", "a", "B", "\x00"}, {"b\x00", "ba", "c", "cz"}, {"d\x00", "e", "ezz"}, {"f\x00", "fa", "g", "é", "\xff"}} {
		for _, name := range names {
			checkGet(t, v, name, null, false)
			checkDel(t, v, name, v, false)
			checkSet(t, v, name, x, obj(slices.Insert([]api.Field{b, d, f}, at, field(name, x))...))
		}
	}
	for _, v := range []api.Value{{Kind: api.Object}, {Kind: api.Object, Fields: []api.Field{}}} {
		checkGet(t, v, "a", null, false)
		checkDel(t, v, "a", v, false)
		checkSet(t, v, "a", x, obj(field("a", x)))
	}
	checkGet(t, obj(field("a", obj(field("b", num(1))))), "b", null, false)
}

func TestFieldsOfWhatIsNoObject(t *testing.T) {
	fs := []api.Field{field("a", num(1)), field("b", num(2))}
	for _, kind := range []api.Kind{math.MinInt64, -1, api.Null, api.Bool, api.Int, api.Text, api.List, 6, math.MaxInt64} {
		for _, v := range []api.Value{
			{Kind: kind},
			{Kind: kind, Int: 1, Text: "a", List: []api.Value{obj(fs...), num(5)}, Fields: fs},
		} {
			for _, name := range []string{"", "a", "b", "c", "0"} {
				checkGet(t, v, name, null, false)
				checkSet(t, v, name, num(9), v)
				checkDel(t, v, name, v, false)
			}
		}
	}
}

func TestObjectKeepsWhatItsKindDoesNotHave(t *testing.T) {
	with := func(fs ...api.Field) api.Value {
		return api.Value{Kind: api.Object, Int: 7, Text: "t", List: []api.Value{num(1)}, Fields: fs}
	}
	a, b := field("a", num(1)), field("b", api.Value{Kind: api.Null, Int: 3, Text: "\xff"})
	checkGet(t, with(a, b), "b", b.Value, true)
	checkSet(t, with(a), "b", b.Value, with(a, b))
	checkSet(t, with(a, b), "b", num(2), with(a, field("b", num(2))))
	checkDel(t, with(a, b), "a", with(b), true)
	checkDel(t, with(a), "b", with(a), false)
}

func TestFieldsThatDoNotRise(t *testing.T) {
	c1, a1, c2, a2, b := field("c", num(1)), field("a", num(2)), field("c", num(3)), field("a", num(4)), field("b", num(5))
	v := obj(c1, a1, c2, a2)
	checkGet(t, v, "a", num(2), true)
	checkGet(t, v, "c", num(1), true)
	checkSet(t, v, "a", null, obj(c1, field("a", null), c2, a2))
	checkSet(t, v, "c", null, obj(field("c", null), a1, c2, a2))
	checkSet(t, v, "b", num(5), obj(b, c1, a1, c2, a2))
	checkSet(t, obj(a1, a2, c1, a1), "b", num(5), obj(a1, a2, b, c1, a1))
	checkSet(t, v, "d", num(5), obj(c1, a1, c2, a2, field("d", num(5))))
	checkDel(t, v, "a", obj(c1, c2, a2), true)
	checkDel(t, v, "c", obj(a1, c2, a2), true)
	checkDel(t, obj(a1, a1), "a", obj(a1), true)
}

func TestSetAndDelStayValid(t *testing.T) {
	r := rand.New(rand.NewSource(5))
	names := []string{"", "a", "aa", "ab", "b", "c", "é"}
	v, have := obj(), map[string]int64{}
	for i := range int64(2000) {
		name := names[r.Intn(len(names))]
		if r.Intn(2) == 0 {
			v = value.Set(v, name, num(i))
			have[name] = i
		} else {
			var ok bool
			_, there := have[name]
			v, ok = value.Del(v, name)
			delete(have, name)
			if ok != there {
				t.Fatalf("Del of %q = %t, want %t", name, ok, there)
			}
		}
		if !value.Valid(v) || len(v.Fields) != len(have) {
			t.Fatalf("%v, want %v", v, have)
		}
		for _, name := range names {
			n, there := have[name]
			got, ok := value.Get(v, name)
			if ok != there || got.Int != n {
				t.Fatalf("Get(%v, %q) = %v, %t; want %d, %t", v, name, got, ok, n, there)
			}
		}
	}
}

// Nothing that is handed in is changed, and no answer shares memory with it (W6).

// spoil changes all the memory that a value has, behind its lists' ends, too.
func spoil(v api.Value) {
	for i := range v.List {
		spoil(v.List[i])
	}
	for i := range v.Fields {
		spoil(v.Fields[i].Value)
	}
	l, fs := v.List[:cap(v.List)], v.Fields[:cap(v.Fields)]
	for i := range l {
		l[i] = api.Value{Kind: -7}
	}
	for i := range fs {
		fs[i] = field("spoilt", api.Value{Kind: -7})
	}
}

// roomy has lists with room behind them, so that what is put in place there would be seen.
func roomy() api.Value {
	fs := make([]api.Field, 0, 8)
	fs = append(fs, field("b", list(list(num(1)), num(2))), field("d", obj(field("x", list(num(3))))), field("f", num(4)))
	return api.Value{Kind: api.Object, Fields: fs, List: []api.Value{num(6)}}
}

// calls are calls that answer a value, of two that are handed in.
func calls() map[string]func(v, x api.Value) api.Value {
	out := map[string]func(v, x api.Value) api.Value{
		"Set of no object": func(v, x api.Value) api.Value { return value.Set(list(v, v), "b", x) },
		"Del of no object": func(v, x api.Value) api.Value { got, _ := value.Del(list(v, v), "b"); return got },
	}
	for _, name := range []string{"a", "b", "c", "d", "e", "f", "g"} {
		out["Get "+name] = func(v, x api.Value) api.Value { got, _ := value.Get(v, name); return got }
		out["Set "+name] = func(v, x api.Value) api.Value { return value.Set(v, name, x) }
		out["Set itself "+name] = func(v, x api.Value) api.Value { return value.Set(v, name, v) }
		out["Del "+name] = func(v, x api.Value) api.Value { got, _ := value.Del(v, name); return got }
	}
	return out
}

func TestNothingIsShared(t *testing.T) {
	for what, call := range calls() {
		v, x := roomy(), roomy()
		got, want := call(v, x), call(roomy(), roomy())
		full := v.Fields[:cap(v.Fields)]
		if !reflect.DeepEqual(v, roomy()) || !reflect.DeepEqual(x, roomy()) || !reflect.DeepEqual(full[3:], make([]api.Field, 5)) {
			t.Errorf("%s: what was handed in was changed", what)
		}
		spoil(v)
		spoil(x)
		if !same(got, want) {
			t.Errorf("%s: the answer changes with what was handed in", what)
		}
		v, x = roomy(), roomy()
		spoil(call(v, x))
		if !reflect.DeepEqual(v, roomy()) || !reflect.DeepEqual(x, roomy()) {
			t.Errorf("%s: what was handed in changes with the answer", what)
		}
	}
}

func TestListsOfAnAnswerShareNothing(t *testing.T) {
	l := list(num(1), num(2))
	got := value.Set(obj(field("a", l), field("b", l)), "c", l)
	spoil(got.Fields[0].Value)
	if want := list(num(1), num(2)); !same(got.Fields[1].Value, want) || !same(got.Fields[2].Value, want) {
		t.Errorf("lists of one answer share memory: %v", got)
	}
}

func TestAskingChangesNothing(t *testing.T) {
	for _, c := range good {
		v := spare(c.v, 2)
		value.Valid(v)
		value.Depth(v)
		value.Size(v)
		value.Cmp(v, v)
		value.Same(v, c.v)
		if !reflect.DeepEqual(v, spare(c.v, 2)) {
			t.Errorf("%v was changed", v)
		}
	}
}
