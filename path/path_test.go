package path_test

import (
	"math"
	"reflect"
	"slices"
	"strings"
	"testing"

	"roundelay/api"
	"roundelay/fault"
	"roundelay/path"
	"roundelay/value"
)

var (
	null  = api.Value{}
	no    = api.Value{Kind: api.Bool}
	yes   = api.Value{Kind: api.Bool, Int: 1}
	empty = api.Value{Kind: api.Object}
)

func num(n int64) api.Value { return api.Value{Kind: api.Int, Int: n} }

func txt(s string) api.Value { return api.Value{Kind: api.Text, Text: s} }

func list(vs ...api.Value) api.Value { return api.Value{Kind: api.List, List: vs} }

func obj(fs ...api.Field) api.Value { return api.Value{Kind: api.Object, Fields: fs} }

func field(name string, v api.Value) api.Field { return api.Field{Name: name, Value: v} }

func ways(parts ...string) []string { return parts }

// same tells whether two values are alike in all that they have, whether their kinds have it or not.
func same(a, b api.Value) bool {
	return a.Kind == b.Kind && a.Int == b.Int && a.Text == b.Text &&
		slices.EqualFunc(a.List, b.List, same) &&
		slices.EqualFunc(a.Fields, b.Fields, func(f, g api.Field) bool { return f.Name == g.Name && same(f.Value, g.Value) })
}

// P6.1

func TestParse(t *testing.T) {
	x32 := strings.Repeat("x", 32)
	for s, want := range map[string][]string{
		"a":                              {"a"},
		"a.b.0":                          {"a", "b", "0"},
		"a.a":                            {"a", "a"},
		"long name.b":                    {"long name", "b"},
		"1.2.3.4.5.6.7.8":                {"1", "2", "3", "4", "5", "6", "7", "8"},
		x32:                              {x32},
		x32 + ".a":                       {x32, "a"},
		"a." + x32 + ".b":                {"a", x32, "b"},
		"a." + x32:                       {"a", x32},
		strings.Repeat(x32+".", 7) + x32: slices.Repeat([]string{x32}, 8),
		"é":                              {"é"},
		"é.€.\U0010ffff":                 {"é", "€", "\U0010ffff"},
		strings.Repeat("é", 16):          {strings.Repeat("é", 16)},
		strings.Repeat("€", 10) + "ab":   {strings.Repeat("€", 10) + "ab"},
		strings.Repeat("\U0001f600", 8):  {strings.Repeat("\U0001f600", 8)},
		"a.\ufffd":                       {"a", "\ufffd"},
		"\x00.\x01":                      {"\x00", "\x01"},
		" . ":                            {" ", " "},
		"$a./,\n.\"":                     {"$a", "/,\n", "\""},
		"-1.+1.01.1e5":                   {"-1", "+1", "01", "1e5"},
		"．…·。":                           {"．…·。"},
	} {
		got, err := path.Parse(s)
		if err != nil || !slices.Equal(got, want) {
			t.Errorf("Parse(%q) = %q, %v; want %q", s, got, err, want)
		}
	}
}

func checkNoPath(t *testing.T, s string) {
	t.Helper()
	got, err := path.Parse(s)
	if fault.Code(err) != api.ErrPath || len(got) != 0 {
		t.Errorf("Parse of %d bytes, %.60q, = %.60q, %v", len(s), s, got, err)
	}
}

func TestParseOfTooManyParts(t *testing.T) {
	for _, n := range []int{9, 10, 16, 17, 256, 257, 1 << 20} {
		checkNoPath(t, strings.Repeat("a.", n-1)+"a")
		checkNoPath(t, strings.Repeat("é.", n-1)+"é")
	}
}

func TestParseOfPartsOfNoByte(t *testing.T) {
	for _, s := range []string{"", ".", "..", "a.", ".a", "a..", "..a", "a..b", ".a.", "a.b.", ".a.b", "a..b.c", "a.b..c", "é.", ".é", "1.2.3.4.5.6.7.", ".2.3.4.5.6.7.8", "1.2.3.4.5.6..8", "1.2.3.4.5.6.7.8.", strings.Repeat(".", 1<<20)} {
		checkNoPath(t, s)
	}
}

func TestParseOfPartsOfTooManyBytes(t *testing.T) {
	for _, s := range []string{strings.Repeat("x", 33), strings.Repeat("x", 34), strings.Repeat("x", 64), strings.Repeat("x", 1<<20), strings.Repeat("é", 16) + "x", "x" + strings.Repeat("é", 16), strings.Repeat("é", 17), strings.Repeat("€", 11), strings.Repeat("\U0001f600", 8) + "x"} {
		checkNoPath(t, s)
		checkNoPath(t, s+".b")
		checkNoPath(t, "a."+s+".b")
		checkNoPath(t, "a."+s)
		checkNoPath(t, "1.2.3.4.5.6.7."+s)
		checkNoPath(t, s+"."+s)
	}
}

func TestParseOfWhatIsNoUTF8(t *testing.T) {
	for _, s := range []string{"\xff", "\x80", "\xc3", "a\xc3", "\xc0\x80", "\xc0\xae", "\xe2\x82", "\xed\xa0\x80", "\xf4\x90\x80\x80", "é\xfe", "\xc3.\xa9"} {
		checkNoPath(t, s)
		checkNoPath(t, s+".b")
		checkNoPath(t, "a."+s+".b")
		checkNoPath(t, "a."+s)
		checkNoPath(t, "a"+s+"b")
		checkNoPath(t, "1.2.3.4.5.6.7."+s)
	}
}

func TestPartsOfAnAnswerAreNewMemory(t *testing.T) {
	got, err := path.Parse("a.b")
	if err != nil {
		t.Fatal(err)
	}
	_ = append(got[:1], "spoilt")
	if again, _ := path.Parse("a.b"); !slices.Equal(again, ways("a", "b")) {
		t.Errorf("Parse is another one behind a change of its answer: %q", again)
	}
}

// What P6.2 and P6.3 say of places in lists.

// notPlaces are parts that tell no place of a list of twelve values.
var notPlaces = []string{
	"", "00", "01", "011", "000", "010", "00000000000000000000000000000001",
	"-0", "-1", "-11", "+0", "+1", "+11", "--1", "-", "+",
	"a", "x1", "1x", "1a0", " 1", "1 ", "1\n", "1\x00", "\x001", "0x1", "0b1", "0o1", "1_0", "1e0", "1.0", "1.", ".1", "1,0", "/", ":", "1/", "1:",
	"\u0661", "\u0967", "\uff11", "1\u0661", "\xff", "1\xff", "\xb1", "¹",
	"12", "13", "20", "100", "110", "255", "256", "257",
	"4294967296", "4294967297", "2147483648", "-2147483647",
	"9223372036854775807", "9223372036854775808", "9223372036854775809", "-9223372036854775808", "-9223372036854775807",
	"18446744073709551615", "18446744073709551616", "18446744073709551617", "36893488147419103233", "340282366920938463463374607431768211457",
	"1" + strings.Repeat("0", 64), "1" + strings.Repeat("0", 63) + "1", "1" + strings.Repeat("0", 1<<16),
}

// twelve is a list whose values tell their places.
func twelve() api.Value {
	v := list()
	for i := range 12 {
		v.List = append(v.List, num(int64(100+i)))
	}
	return v
}

// places are those of twelve.
var places = []string{"0", "1", "2", "3", "4", "5", "6", "7", "8", "9", "10", "11"}

// P6.2

func checkFind(t *testing.T, v api.Value, parts []string, want api.Value) {
	t.Helper()
	if got, ok := path.Find(v, parts); !ok || !same(got, want) {
		t.Errorf("Find(%v, %q) = %v, %t; want %v", v, parts, got, ok, want)
	}
}

func checkFindNone(t *testing.T, v api.Value, parts []string) {
	t.Helper()
	if got, ok := path.Find(v, parts); ok || !same(got, null) {
		t.Errorf("Find(%v, %.60q) = %v, %t; want none", v, parts, got, ok)
	}
}

// sample has values in one another, an empty list and an empty object, and names that look like places.
func sample() api.Value {
	return obj(
		field("", num(1)),
		field("01", txt("zero")),
		field("1", no),
		field("a", list(num(5), num(6), list(), obj(field("b", list(num(7), obj(field("c", yes))))), list(list(num(8), null)))),
		field("b", obj(field("a", num(9)), field("c", obj(field("a", empty))), field("n", null))),
		field("b.c", num(10)),
		field("é", txt("last")),
	)
}

func TestFind(t *testing.T) {
	v := sample()
	inner := obj(field("b", list(num(7), obj(field("c", yes)))))
	for _, c := range []struct {
		parts []string
		want  api.Value
	}{
		{nil, v},
		{ways(), v},
		{ways(""), num(1)},
		{ways("01"), txt("zero")},
		{ways("1"), no},
		{ways("a", "0"), num(5)},
		{ways("a", "1"), num(6)},
		{ways("a", "2"), list()},
		{ways("a", "3"), inner},
		{ways("a", "3", "b", "0"), num(7)},
		{ways("a", "3", "b", "1", "c"), yes},
		{ways("a", "4"), list(list(num(8), null))},
		{ways("a", "4", "0", "0"), num(8)},
		{ways("a", "4", "0", "1"), null},
		{ways("b", "a"), num(9)},
		{ways("b", "c", "a"), empty},
		{ways("b", "n"), null},
		{ways("b.c"), num(10)},
		{ways("é"), txt("last")},
	} {
		checkFind(t, v, c.parts, c.want)
		checkFind(t, list(null, v), append(ways("1"), c.parts...), c.want)
		checkFind(t, obj(field("a", null), field("x", v)), append(ways("x"), c.parts...), c.want)
	}
}

func TestFindOfNone(t *testing.T) {
	v := sample()
	for _, parts := range [][]string{
		ways("0"), ways("00"), ways("A"), ways("a\x00"), ways("c"), ways("e"), ways("\xc3"), ways("z"), ways("é\x00"), ways("\xff"), ways("a.0"), ways("a.1"), ways("b.a"),
		ways("a", "5"), ways("a", "2", "0"), ways("a", "4", "1"), ways("a", "4", "0", "2"), ways("a", "b"), ways("a", ""), ways("a", "3", "0"),
		ways("b", "c", "a", "a"), ways("b", "0"), ways("b", ""),
		ways("", ""), ways("", "0"), ways("01", "0"), ways("1", "0"), ways("1", ""), ways("a", "0", "0"), ways("b", "n", "n"), ways("b", "n", "n", "n"),
		ways("z", "z"), ways("z", "0"), ways("z", ""),
		slices.Repeat([]string{"a"}, 1<<20),
	} {
		checkFindNone(t, v, parts)
		checkFindNone(t, list(null, v), append(ways("1"), parts...))
		checkFindNone(t, obj(field("a", null), field("x", v)), append(ways("x"), parts...))
	}
}

func TestFindOfPlaces(t *testing.T) {
	v := twelve()
	for i, place := range places {
		checkFind(t, v, ways(place), num(int64(100+i)))
		checkFind(t, list(v), ways("0", place), num(int64(100+i)))
		checkFindNone(t, v, ways(place, ""))
		checkFindNone(t, v, ways(place, "0"))
	}
	for _, part := range notPlaces {
		checkFindNone(t, v, ways(part))
		checkFindNone(t, v, ways(part, "0"))
		checkFindNone(t, list(v), ways("0", part))
		checkFindNone(t, obj(field("a", v)), ways("a", part))
		checkFind(t, obj(field(part, v)), ways(part), v)
		checkFind(t, list(obj(field(part, v))), ways("0", part, "11"), num(111))
	}
	for _, part := range append(notPlaces, places...) {
		checkFindNone(t, list(), ways(part))
	}
}

// crowded is a value of that kind that has all that other kinds have, too.
func crowded(kind api.Kind) api.Value {
	return api.Value{Kind: kind, Int: 1, Text: "0", List: []api.Value{num(1), num(2)}, Fields: []api.Field{field("0", num(3)), field("a", num(4))}}
}

// scalars are all kinds that have neither a List nor Fields, and some that are none.
var scalars = []api.Kind{math.MinInt64, -1, api.Null, api.Bool, api.Int, api.Text, 6, 7, math.MaxInt64}

func TestFindInWhatTheKindHasAlone(t *testing.T) {
	for _, kind := range scalars {
		for _, v := range []api.Value{{Kind: kind}, crowded(kind)} {
			checkFind(t, v, nil, v)
			for _, part := range []string{"", "0", "1", "a"} {
				checkFindNone(t, v, ways(part))
				checkFindNone(t, list(v), ways("0", part))
				checkFindNone(t, obj(field("a", v)), ways("a", part))
			}
		}
	}
	checkFind(t, crowded(api.List), ways("0"), num(1))
	checkFind(t, crowded(api.List), ways("1"), num(2))
	checkFindNone(t, crowded(api.List), ways("a"))
	checkFind(t, crowded(api.Object), ways("0"), num(3))
	checkFind(t, crowded(api.Object), ways("a"), num(4))
	checkFindNone(t, crowded(api.Object), ways("1"))
}

// deep is v in ninety lists and objects, by turns, and the way to it.
func deep(v api.Value) (api.Value, []string) {
	var parts []string
	for i := range 90 {
		if i%2 == 0 {
			v, parts = list(null, v), append(parts, "1")
		} else {
			v, parts = obj(field("a", yes), field("b", v), field("c", no)), append(parts, "b")
		}
	}
	slices.Reverse(parts)
	return v, parts
}

func TestFindOfWhatIsDeep(t *testing.T) {
	v, parts := deep(sample())
	checkFind(t, v, parts, sample())
	checkFind(t, v, append(slices.Clone(parts), "a", "0"), num(5))
	checkFindNone(t, v, append(slices.Clone(parts), "a", "5"))
	checkFindNone(t, v, append(slices.Clone(parts), "z"))
}

func TestExample(t *testing.T) {
	parts, err := path.Parse("a.1")
	if err != nil {
		t.Fatal(err)
	}
	checkFind(t, obj(field("a", list(num(5), num(6)))), parts, num(6))
}

// P6.3: Put

func checkPut(t *testing.T, v api.Value, parts []string, x, want api.Value) {
	t.Helper()
	if got, err := path.Put(v, parts, x); err != nil || !same(got, want) {
		t.Errorf("Put(%v, %q, %v) = %v, %v; want %v", v, parts, x, got, err, want)
	}
}

func checkPutNone(t *testing.T, v api.Value, parts []string) {
	t.Helper()
	for _, x := range []api.Value{null, num(1), empty} {
		if got, err := path.Put(v, parts, x); fault.Code(err) != api.ErrPath || !same(got, null) {
			t.Errorf("Put(%v, %.60q, %v) = %v, %v; want ErrPath", v, parts, x, got, err)
		}
	}
}

func TestPutOfNoParts(t *testing.T) {
	for _, v := range []api.Value{null, no, num(1), txt("a"), list(num(1)), sample(), crowded(api.Object), crowded(77)} {
		for _, x := range []api.Value{null, num(2), empty, sample(), crowded(api.Null), v} {
			checkPut(t, v, nil, x, x)
			checkPut(t, v, ways(), x, x)
		}
	}
}

func TestPutOfAFieldThatIsThere(t *testing.T) {
	b, d, f := field("b", num(1)), field("d", list(num(2))), field("f", obj(field("g", num(3)), field("i", num(4))))
	v, x := obj(b, d, f), obj(field("x", yes))
	checkPut(t, v, ways("b"), x, obj(field("b", x), d, f))
	checkPut(t, v, ways("d"), x, obj(b, field("d", x), f))
	checkPut(t, v, ways("f"), x, obj(b, d, field("f", x)))
	checkPut(t, v, ways("f", "g"), x, obj(b, d, field("f", obj(field("g", x), field("i", num(4))))))
	checkPut(t, v, ways("f", "i"), x, obj(b, d, field("f", obj(field("g", num(3)), field("i", x)))))
	checkPut(t, v, ways("b"), null, obj(field("b", null), d, f))
	checkPut(t, v, ways("b"), num(1), v)
	checkPut(t, v, ways("f"), v, obj(b, d, field("f", v)))
	checkPut(t, obj(field("", no)), ways(""), x, obj(field("", x)))
}

func TestPutOfAFieldThatIsNotThere(t *testing.T) {
	b, d, f := field("b", num(1)), field("d", empty), field("f", obj(field("a", num(2)), field("c", num(3))))
	v, x := obj(b, d, f), list(txt("x"))
	for at, names := range [][]string{{"", "a", "B", "0", "\x00"}, {"b\x00", "ba", "c", "cz"}, {"d\x00", "d.x", "e"}, {"f\x00", "fa", "g", "é", "\xff"}} {
		for _, name := range names {
			checkPut(t, v, ways(name), x, obj(slices.Insert([]api.Field{b, d, f}, at, field(name, x))...))
			checkPut(t, v, ways(name), null, obj(slices.Insert([]api.Field{b, d, f}, at, field(name, null))...))
		}
	}
	checkPut(t, v, ways("d", "x"), x, obj(b, field("d", obj(field("x", x))), f))
	checkPut(t, v, ways("f", "b"), x, obj(b, d, field("f", obj(field("a", num(2)), field("b", x), field("c", num(3))))))
	checkPut(t, empty, ways("a"), x, obj(field("a", x)))
	checkPut(t, api.Value{Kind: api.Object, Fields: []api.Field{}}, ways("a"), x, obj(field("a", x)))
}

func TestPutOfPartsThatAreNotThere(t *testing.T) {
	one := func(name string, v api.Value) api.Value { return obj(field(name, v)) }
	b, x := field("b", num(1)), txt("x")
	checkPut(t, obj(b), ways("a", "c"), x, obj(field("a", one("c", x)), b))
	checkPut(t, obj(b), ways("c", "b", "a"), x, obj(b, field("c", one("b", one("a", x)))))
	checkPut(t, obj(b), ways("c", "0"), x, obj(b, field("c", one("0", x))))
	checkPut(t, obj(b), ways("c", "0", "01", "-1", ""), x, obj(b, field("c", one("0", one("01", one("-1", one("", x)))))))
	checkPut(t, obj(b), ways("c", "c", "c"), empty, obj(b, field("c", one("c", one("c", empty)))))
	checkPut(t, empty, ways("1", "2", "3", "4", "5", "6", "7", "8"), x, one("1", one("2", one("3", one("4", one("5", one("6", one("7", one("8", x)))))))))
	checkPut(t, list(num(1), obj(b)), ways("1", "c", "d"), x, list(num(1), obj(b, field("c", one("d", x)))))
	v, want := empty, x
	names := slices.Repeat(ways("a", "0", ""), 32)
	for _, name := range slices.Backward(names) {
		want = one(name, want)
	}
	checkPut(t, v, names, x, want)
}

func TestPutOfPlaces(t *testing.T) {
	x := obj(field("x", yes))
	for i, place := range places {
		want := twelve()
		want.List[i] = x
		checkPut(t, twelve(), ways(place), x, want)
		checkPut(t, list(null, twelve()), ways("1", place), x, list(null, want))
		checkPut(t, obj(field("a", twelve())), ways("a", place), x, obj(field("a", want)))
		checkPutNone(t, twelve(), ways(place, "0"))
		checkPutNone(t, twelve(), ways(place, ""))
	}
	for _, part := range notPlaces {
		checkPutNone(t, twelve(), ways(part))
		checkPutNone(t, twelve(), ways(part, "a"))
		checkPutNone(t, list(twelve()), ways("0", part))
		checkPutNone(t, obj(field("a", twelve())), ways("a", part))
		checkPut(t, empty, ways(part), x, obj(field(part, x)))
	}
	for _, part := range append(notPlaces, places...) {
		checkPutNone(t, list(), ways(part))
	}
	checkPut(t, list(list(num(1), num(2)), num(3)), ways("0", "1"), x, list(list(num(1), x), num(3)))
	checkPut(t, list(obj(field("a", num(1)))), ways("0", "a"), x, list(obj(field("a", x))))
}

func TestPutInWhatTheKindHasAlone(t *testing.T) {
	for _, kind := range scalars {
		for _, v := range []api.Value{{Kind: kind}, crowded(kind)} {
			for _, part := range []string{"", "0", "1", "a", "z"} {
				checkPutNone(t, v, ways(part))
				checkPutNone(t, v, ways(part, part))
				checkPutNone(t, list(v), ways("0", part))
				checkPutNone(t, obj(field("a", v)), ways("a", part))
				checkPutNone(t, obj(field("a", v)), ways("a", part, "b", "c"))
			}
		}
	}
	checkPutNone(t, crowded(api.List), ways("a"))
	checkPutNone(t, crowded(api.List), ways("2"))
	want := crowded(api.List)
	want.List[0] = yes
	checkPut(t, crowded(api.List), ways("0"), yes, want)
	want = crowded(api.Object)
	want.Fields[0].Value = yes
	checkPut(t, crowded(api.Object), ways("0"), yes, want)
	want = crowded(api.Object)
	want.Fields = slices.Insert(want.Fields, 1, field("1", yes))
	checkPut(t, crowded(api.Object), ways("1"), yes, want)
}

func TestPutOfWhatIsDeep(t *testing.T) {
	v, parts := deep(obj(field("x", num(1))))
	want, _ := deep(obj(field("x", num(2))))
	checkPut(t, v, append(slices.Clone(parts), "x"), num(2), want)
	want, _ = deep(obj(field("x", num(1)), field("y", obj(field("z", num(2))))))
	checkPut(t, v, append(slices.Clone(parts), "y", "z"), num(2), want)
	checkPutNone(t, v, append(slices.Clone(parts), "x", "y"))
}

func TestPutEndsSoon(t *testing.T) {
	parts := slices.Repeat(ways("a"), 1<<16)
	checkPutNone(t, obj(field("a", obj(field("a", num(1))))), parts)
	if _, err := path.Put(empty, parts, yes); err != nil {
		t.Error(err)
	}
}

// P6.3: Cut

func checkCut(t *testing.T, v api.Value, parts []string, want api.Value) {
	t.Helper()
	if got, ok := path.Cut(v, parts); !ok || !same(got, want) {
		t.Errorf("Cut(%v, %q) = %v, %t; want %v", v, parts, got, ok, want)
	}
}

func checkCutNone(t *testing.T, v api.Value, parts []string) {
	t.Helper()
	if got, ok := path.Cut(v, parts); ok || !same(got, v) {
		t.Errorf("Cut(%v, %.60q) = %v, %t; want none", v, parts, got, ok)
	}
}

func TestCut(t *testing.T) {
	b, d, f := field("b", num(1)), field("d", list(num(2))), field("f", obj(field("b", num(3)), field("i", list(num(4), obj(field("j", num(5)), field("k", null))))))
	v := obj(b, d, f)
	checkCut(t, v, ways("b"), obj(d, f))
	checkCut(t, v, ways("d"), obj(b, f))
	checkCut(t, v, ways("f"), obj(b, d))
	checkCut(t, v, ways("f", "b"), obj(b, d, field("f", obj(f.Value.Fields[1]))))
	checkCut(t, v, ways("f", "i"), obj(b, d, field("f", obj(field("b", num(3))))))
	checkCut(t, v, ways("f", "i", "1", "j"), obj(b, d, field("f", obj(field("b", num(3)), field("i", list(num(4), obj(field("k", null))))))))
	checkCut(t, v, ways("f", "i", "1", "k"), obj(b, d, field("f", obj(field("b", num(3)), field("i", list(num(4), obj(field("j", num(5)))))))))
	checkCut(t, obj(b), ways("b"), empty)
	checkCut(t, obj(field("", v)), ways(""), empty)
	checkCut(t, obj(field("", v)), ways("", "b"), obj(field("", obj(d, f))))
	checkCut(t, obj(field("0", no), field("01", yes)), ways("01"), obj(field("0", no)))
	checkCut(t, obj(field("a", obj(b))), ways("a", "b"), obj(field("a", empty)))
	checkCut(t, list(obj(b)), ways("0", "b"), list(empty))
	checkCut(t, list(obj(b), list(null, obj(b, d))), ways("1", "1", "b"), list(obj(b), list(null, obj(d))))
}

func TestCutOfNone(t *testing.T) {
	v := sample()
	for _, parts := range [][]string{
		nil, ways(), ways("0"), ways("A"), ways("z"), ways("é\x00"), ways("\xff"), ways("a.0"), ways("a.1"), ways("b.a"),
		ways("a", "0"), ways("a", "3"), ways("a", "4"), ways("a", "5"), ways("a", "4", "0"), ways("a", "4", "0", "1"), ways("a", "3", "b", "1"), ways("a", "b"), ways("a", ""), ways("a", "3", "z"), ways("a", "2", "0"),
		ways("b", "z"), ways("b", "c", "z"), ways("b", "c", "a", "a"), ways("b", "c", "b"),
		ways("", ""), ways("01", "0"), ways("1", "0"), ways("a", "0", "0"), ways("a", "0", "a"), ways("b", "n", "n"), ways("b", "n", "n", "n"),
		ways("z", "z"), ways("z", "b", "c"), ways("a", "5", "b"), ways("a", "03", "b"),
		slices.Repeat([]string{"a"}, 1<<20),
	} {
		checkCutNone(t, v, parts)
	}
	checkCutNone(t, empty, ways("a"))
	checkCutNone(t, list(), ways("0"))
	checkCutNone(t, list(num(1)), ways("0"))
}

func TestCutOfPlaces(t *testing.T) {
	a, b := field("a", num(1)), field("b", num(2))
	twins := list()
	for range 12 {
		twins.List = append(twins.List, obj(a, b))
	}
	for i, place := range places {
		want := list(slices.Clone(twins.List)...)
		want.List[i] = obj(b)
		checkCut(t, twins, ways(place, "a"), want)
		checkCutNone(t, twins, ways(place))
		checkCutNone(t, twins, ways(place, "c"))
		checkCutNone(t, twelve(), ways(place))
		checkCutNone(t, list(twelve()), ways("0", place))
		checkCutNone(t, obj(field("a", twelve())), ways("a", place))
	}
	for _, part := range notPlaces {
		checkCutNone(t, twins, ways(part, "a"))
		checkCutNone(t, twins, ways(part))
		checkCutNone(t, list(twelve()), ways("0", part))
		checkCutNone(t, obj(field("a", twins)), ways("a", part, "a"))
		checkCut(t, obj(field(part, twins)), ways(part), empty)
		checkCut(t, obj(field(part, obj(a, b))), ways(part, "b"), obj(field(part, obj(a))))
	}
}

func TestCutInWhatTheKindHasAlone(t *testing.T) {
	for _, kind := range append(scalars, api.List) {
		for _, v := range []api.Value{{Kind: kind}, crowded(kind)} {
			for _, part := range []string{"", "0", "1", "a", "z"} {
				checkCutNone(t, v, ways(part))
				checkCutNone(t, v, ways(part, part))
				checkCutNone(t, list(v), ways("0", part))
				checkCutNone(t, obj(field("a", v)), ways("a", part))
			}
		}
	}
	want := crowded(api.Object)
	want.Fields = want.Fields[1:]
	checkCut(t, crowded(api.Object), ways("0"), want)
	checkCutNone(t, crowded(api.Object), ways("1"))
}

func TestCutOfWhatIsDeep(t *testing.T) {
	v, parts := deep(obj(field("x", num(1)), field("y", num(2))))
	want, _ := deep(obj(field("y", num(2))))
	checkCut(t, v, append(slices.Clone(parts), "x"), want)
	checkCutNone(t, v, append(slices.Clone(parts), "z"))
	checkCutNone(t, v, append(slices.Clone(parts), "x", "x"))
}

// What P6.2 and P6.3 tell of Objects whose fields do not rise: the first field of a name counts, and a new one stands as value.Set puts it.
func TestFieldsThatDoNotRise(t *testing.T) {
	c1, a1, c2, a2 := field("c", num(1)), field("a", obj(field("x", num(2)))), field("c", num(3)), field("a", obj(field("x", num(4))))
	v := obj(c1, a1, c2, a2)
	checkFind(t, v, ways("c"), num(1))
	checkFind(t, v, ways("a", "x"), num(2))
	checkPut(t, v, ways("a", "x"), yes, obj(c1, field("a", obj(field("x", yes))), c2, a2))
	checkPut(t, v, ways("c"), yes, obj(field("c", yes), a1, c2, a2))
	checkPut(t, v, ways("b", "x"), yes, obj(field("b", obj(field("x", yes))), c1, a1, c2, a2))
	checkCut(t, v, ways("a", "x"), obj(c1, field("a", empty), c2, a2))
	checkCut(t, v, ways("c"), obj(a1, c2, a2))
}

// Nothing that is handed in is changed, and no answer shares memory with it (W6).

// spoil changes all the memory that a value has, behind its lists' ends, too.
func spoil(v api.Value) {
	for i := range v.List {
		spoil(v.List[i])
	}
	for i := range v.Fields {
		spoil(v.Fields[i].Value)
	}
	l, fs := v.List[:cap(v.List)], v.Fields[:cap(v.Fields)]
	for i := range l {
		l[i] = api.Value{Kind: -7}
	}
	for i := range fs {
		fs[i] = field("spoilt", api.Value{Kind: -7})
	}
}

// roomy has lists with room behind them, so that what is put in place there would be seen.
func roomy() api.Value {
	inner := append(make([]api.Field, 0, 8), field("b", num(3)), field("d", list(num(4))))
	l := append(make([]api.Value, 0, 8), list(num(1)), obj(inner...), num(2))
	fs := append(make([]api.Field, 0, 8), field("b", api.Value{Kind: api.List, List: l}), field("d", api.Value{Kind: api.Object, Fields: slices.Grow(slices.Clone(inner), 6)}), field("f", num(5)))
	return api.Value{Kind: api.Object, Fields: fs, List: []api.Value{num(6)}}
}

// whole is a value with the room behind its lists told as if that were in it.
func whole(v api.Value) api.Value {
	v.List = slices.Clone(v.List[:cap(v.List)])
	for i := range v.List {
		v.List[i] = whole(v.List[i])
	}
	v.Fields = slices.Clone(v.Fields[:cap(v.Fields)])
	for i := range v.Fields {
		v.Fields[i].Value = whole(v.Fields[i].Value)
	}
	return v
}

// roads are ways into roomy, and some that lead nowhere.
var roads = [][]string{
	nil, {"a"}, {"b"}, {"c"}, {"d"}, {"e"}, {"f"}, {"g"}, {"a", "b"}, {"b", "0"}, {"b", "1"}, {"b", "2"}, {"b", "3"}, {"b", "-1"}, {"b", "0", "0"}, {"b", "1", "a"}, {"b", "1", "b"}, {"b", "1", "c", "d"}, {"b", "1", "d"}, {"b", "1", "d", "0"}, {"b", "1", "e"}, {"b", "2", "a"}, {"d", "a"}, {"d", "b"}, {"d", "c", "c", "c"}, {"d", "d"}, {"d", "d", "0"}, {"d", "d", "1"}, {"d", "e"}, {"f", "a"}, {"z", "z", "z"},
}

// calls are calls that answer a value, of two and a way that are handed in.
var calls = []struct {
	name string
	call func(v, x api.Value, parts []string) api.Value
}{
	{"Find", func(v, x api.Value, parts []string) api.Value { got, _ := path.Find(v, parts); return got }},
	{"Put", func(v, x api.Value, parts []string) api.Value { got, _ := path.Put(v, parts, x); return got }},
	{"Put itself", func(v, x api.Value, parts []string) api.Value { got, _ := path.Put(v, parts, v); return got }},
	{"Cut", func(v, x api.Value, parts []string) api.Value { got, _ := path.Cut(v, parts); return got }},
}

func TestNothingIsSharedOrChanged(t *testing.T) {
	for _, c := range calls {
		for _, road := range roads {
			v, x, parts := roomy(), roomy(), slices.Grow(slices.Clone(road), 4)
			got, want := c.call(v, x, parts), c.call(roomy(), roomy(), road)
			for _, w := range []api.Value{v, x} {
				if !reflect.DeepEqual(whole(w), whole(roomy())) {
					t.Errorf("%s of %q: what was handed in was changed", c.name, road)
				}
			}
			if full := parts[:cap(parts)]; !slices.Equal(parts, road) || slices.ContainsFunc(full[len(parts):], func(s string) bool { return s != "" }) {
				t.Errorf("%s of %q: its parts were changed: %q", c.name, road, full)
			}
			spoil(v)
			spoil(x)
			for i := range parts {
				parts[i] = "spoilt"
			}
			if !same(got, want) {
				t.Errorf("%s of %q: the answer changes with what was handed in", c.name, road)
			}
			v, x = roomy(), roomy()
			spoil(c.call(v, x, road))
			if !reflect.DeepEqual(whole(v), whole(roomy())) || !reflect.DeepEqual(whole(x), whole(roomy())) {
				t.Errorf("%s of %q: what was handed in changes with the answer", c.name, road)
			}
		}
	}
}

func TestListsOfAnAnswerShareNothing(t *testing.T) {
	l := list(num(1), num(2))
	got, err := path.Put(obj(field("a", l), field("b", l)), ways("c", "d"), l)
	if err != nil {
		t.Fatal(err)
	}
	spoil(got.Fields[0].Value)
	for _, parts := range [][]string{ways("b"), ways("c", "d")} {
		checkFind(t, got, parts, list(num(1), num(2)))
	}
	_ = append(got.Fields[1].Value.List, num(3))
	checkFind(t, got, ways("c", "d"), list(num(1), num(2)))
}

func TestAnswersOfWhatIsValidAreValid(t *testing.T) {
	for _, c := range calls {
		for _, v := range []api.Value{sample(), twelve(), null} {
			for _, road := range roads {
				if got := c.call(v, sample(), road); !value.Valid(got) {
					t.Errorf("%s of %q answers what is not Valid: %v", c.name, road, got)
				}
			}
		}
	}
}
