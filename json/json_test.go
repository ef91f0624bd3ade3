package json_test

import (
	"fmt"
	"math"
	"reflect"
	"slices"
	"strings"
	"testing"

	"roundelay/api"
	"roundelay/fault"
	"roundelay/json"
	"roundelay/value"
)

var (
	null = api.Value{}
	no   = api.Value{Kind: api.Bool}
	yes  = api.Value{Kind: api.Bool, Int: 1}
)

func num(n int64) api.Value { return api.Value{Kind: api.Int, Int: n} }

func txt(s string) api.Value { return api.Value{Kind: api.Text, Text: s} }

func list(vs ...api.Value) api.Value { return api.Value{Kind: api.List, List: vs} }

func obj(fs ...api.Field) api.Value { return api.Value{Kind: api.Object, Fields: fs} }

func field(name string, v api.Value) api.Field { return api.Field{Name: name, Value: v} }

// same tells whether two values are, with what their kinds do not have.
func same(a, b api.Value) bool {
	return a.Kind == b.Kind && a.Int == b.Int && a.Text == b.Text &&
		slices.EqualFunc(a.List, b.List, same) &&
		slices.EqualFunc(a.Fields, b.Fields, func(f, g api.Field) bool { return f.Name == g.Name && same(f.Value, g.Value) })
}

func checkRead(t *testing.T, s string, want api.Value) {
	t.Helper()
	got, err := json.Parse(s)
	if err != nil || !same(got, want) {
		t.Errorf("Parse(%q) = %v, %v; want %v", s, got, err, want)
	}
	if !value.Valid(got) {
		t.Errorf("Parse(%q) = %v, which is not Valid", s, got)
	}
}

func checkWrong(t *testing.T, s string, want api.Errno) {
	t.Helper()
	got, err := json.Parse(s)
	if fault.Code(err) != want || !reflect.DeepEqual(got, api.Value{}) {
		t.Errorf("Parse(%q) = %v, %v; want error %d alone", s, got, err, want)
	}
}

// P4.1: each kind

func TestParseReadsEachKind(t *testing.T) {
	for s, want := range map[string]api.Value{
		"null":                       null,
		"true":                       yes,
		"false":                      no,
		"0":                          num(0),
		"17":                         num(17),
		"-17":                        num(-17),
		`""`:                         txt(""),
		`"a b"`:                      txt("a b"),
		`"\"\\\/\b\f\n\r\t"`:         txt("\"\\/\b\f\n\r\t"),
		`"\u0041\u00e9\ud83d\ude00"`: txt("Aé\U0001F600"),
		"\"é\U0001F600\x7f\"":        txt("é\U0001F600\x7f"),
		`"[1,{}]"`:                   txt("[1,{}]"),
		"[]":                         list(),
		"[1]":                        list(num(1)),
		`[3,2,2,"a",null,[],{}]`:     list(num(3), num(2), num(2), txt("a"), null, list(), obj()),
		"[[[1],2],[3]]":              list(list(list(num(1)), num(2)), list(num(3))),
		"{}":                         obj(),
		`{"a":1}`:                    obj(field("a", num(1))),
		`{"":{"":[{}]}}`:             obj(field("", obj(field("", list(obj()))))),
		`{"a":true,"b":[],"c":"a"}`:  obj(field("a", yes), field("b", list()), field("c", txt("a"))),
		`{"\u00e9\n":null}`:          obj(field("é\n", null)),
	} {
		checkRead(t, s, want)
	}
}

func TestParseTakesNoOtherWord(t *testing.T) {
	for _, s := range []string{
		"n", "nul", "nulL", "NULL", "Null", "nil", "none", "t", "tru", "True", "TRUE", "f", "fals", "False", "nulll", "truefalse", "true1", "1true", "nullnull",
		"undefined", "NaN", "Infinity", "-Infinity", "a", "'a'", "`a`", "\x00", "\xff", "é", "#", "//", "/**/1", "1//", "_", "@", "\ufeff1", "1\ufeff", "1\x00", "\x001",
	} {
		checkWrong(t, s, api.ErrForm)
		checkWrong(t, "["+s+"]", api.ErrForm)
		checkWrong(t, `{"a":`+s+"}", api.ErrForm)
	}
}

func TestParseTakesTextsOfChapter2Alone(t *testing.T) {
	for _, s := range []string{
		`"`, `"a`, `"\"`, `"\q"`, `"\u"`, `"\u004"`, `"\u004g"`, `"\U0041"`, `"\ud800"`, `"\udc00"`, `"\udc00\ud800"`, `"\ud800\u0041"`,
		"\"\xff\"", "\"\xc3\"", "\"\xed\xa0\x80\"", "\"\n\"", "\"\t\"", "\"\x00\"", "\"\x1f\"", `"a"b"`, `"a""b"`, `a"`, `\"a"`,
	} {
		checkWrong(t, s, api.ErrForm)
		checkWrong(t, "["+s+"]", api.ErrForm)
		checkWrong(t, "{"+s+":1}", api.ErrForm)
		checkWrong(t, `{"a":`+s+"}", api.ErrForm)
	}
}

// P4.1: size

func TestParseReadsMaxJSONBytes(t *testing.T) {
	pad := func(s string, n int) string { return s + strings.Repeat(" ", n-len(s)) }
	long := strings.Repeat("x", api.MaxJSON-2)
	ones := "1" + strings.Repeat(",1", api.MaxJSON/2-2)
	for _, n := range []int{api.MaxJSON - 1, api.MaxJSON} {
		checkRead(t, pad("[1]", n), list(num(1)))
	}
	checkRead(t, strings.Repeat("\n", api.MaxJSON-1)+"5", num(5))
	checkRead(t, `"`+long+`"`, txt(long))
	checkRead(t, pad("["+ones+"]", api.MaxJSON), list(slices.Repeat([]api.Value{num(1)}, api.MaxJSON/2-1)...))
	for _, s := range []string{"", "[1", "x", `"`} {
		checkWrong(t, pad(s, api.MaxJSON), api.ErrForm)
	}
	checkWrong(t, strings.Repeat("[", api.MaxJSON), api.ErrDeep)
	checkWrong(t, strings.Repeat("1", api.MaxJSON), api.ErrNumber)
}

func TestParseTellsOfTooManyBytesFirst(t *testing.T) {
	for _, s := range []string{"", "[1]", "x", "1.5", `{"a":1,"a":2}`, strings.Repeat("[", 17), "\xff", `"`} {
		for _, n := range []int{api.MaxJSON + 1, api.MaxJSON + 2, 1 << 16} {
			checkWrong(t, s+strings.Repeat(" ", n-len(s)), api.ErrSize)
			checkWrong(t, strings.Repeat(" ", n-len(s))+s, api.ErrSize)
		}
	}
	checkWrong(t, `"`+strings.Repeat("x", api.MaxJSON-1)+`"`, api.ErrSize)
	checkWrong(t, strings.Repeat("[", api.MaxJSON+1), api.ErrSize)
	checkWrong(t, strings.Repeat("1", api.MaxJSON+1), api.ErrSize)
	checkWrong(t, `"`+strings.Repeat("é", api.MaxJSON/2)+`"`, api.ErrSize)
}

// P4.1: blanks

// parts are those of a text, between which blanks may stand.
var parts = []string{"{", `"b"`, ":", "[", "1", ",", "-2", ",", "null", ",", `"x y"`, ",", "[", "]", ",", "{", "}", "]", ",", `"a"`, ":", "true", "}"}

// joined is the parts with something ahead of one of them, or behind all.
func joined(at int, between string) string {
	return strings.Join(parts[:at], "") + between + strings.Join(parts[at:], "")
}

func TestParseTakesBlanksBetweenAllParts(t *testing.T) {
	want := obj(field("a", yes), field("b", list(num(1), num(-2), null, txt("x y"), list(), obj())))
	for _, blank := range []string{"", "\t", "\n", "\r", " ", "\r\n", "\t \n\r  "} {
		checkRead(t, blank+strings.Join(parts, blank)+blank, want)
		for at := range len(parts) + 1 {
			checkRead(t, joined(at, blank), want)
		}
		for s, want := range map[string]api.Value{"null": null, "true": yes, "0": num(0), "-7": num(-7), `"a"`: txt("a")} {
			checkRead(t, blank+s+blank, want)
		}
	}
}

func TestParseTakesNoOtherBlanks(t *testing.T) {
	others := []string{"\u0085", "\u00a0", "\u1680", "\u2000", "\u2028", "\u2029", "\u202f", "\u3000", "\ufeff", "\u200b", `\n`, `\u0020`, "/**/"}
	for c := range 256 {
		if c < 32 && c != 9 && c != 10 && c != 13 || c >= 127 {
			others = append(others, string([]byte{byte(c)}))
		}
	}
	for _, other := range others {
		for at := range len(parts) + 1 {
			checkWrong(t, joined(at, other), api.ErrForm)
			checkWrong(t, joined(at, " "+other+"\n"), api.ErrForm)
		}
	}
}

func TestParseTakesNoBlanksWithinParts(t *testing.T) {
	for _, blank := range []string{" ", "\t", "\n", "\r"} {
		for _, s := range []string{"nu%sll", "t%srue", "fals%se", "-%s1", "1%s2", "-1%s0", "0%s0", "1%s.5", "1%se2", "1%sE2", "[1%s2]", `["a"%s"b"]`, "[%s,]", "[1,%s]", `{"a"%s1}`} {
			checkWrong(t, fmt.Sprintf(s, blank), api.ErrForm)
		}
	}
	checkRead(t, `" a "`, txt(" a "))
	checkRead(t, `{" a ":1}`, obj(field(" a ", num(1))))
}

// P4.1: depth

// begins are texts behind which a value is to be that stands MaxDepth deep, and what ends them.
var begins = map[string]string{
	strings.Repeat("[", 15):                              strings.Repeat("]", 15),
	strings.Repeat(`{"a":`, 15):                          strings.Repeat("}", 15),
	strings.Repeat(`[{"a":`, 7) + "[":                    "]" + strings.Repeat("}]", 7),
	strings.Repeat(`{"a":[`, 7) + `{"b":`:                "}" + strings.Repeat("]}", 7),
	strings.Repeat("[", 14) + "[[],1,":                   strings.Repeat("]", 15),
	strings.Repeat("[ \n", 14) + `{"x" : [ ], "y" : `:    "}" + strings.Repeat(" ]", 14),
	"[[],[[]],{}," + strings.Repeat("[", 14):             strings.Repeat("]", 15),
	`{"a":[{}],"b":` + strings.Repeat(`{"a":1,"b":`, 14): strings.Repeat("}", 15),
}

func TestParseReadsMaxDepth(t *testing.T) {
	for begin, end := range begins {
		for _, s := range []string{"null", "true", "-5", `"a"`, "[]", "{}", "[ ]", "{\n}", " [\t\r] "} {
			v, err := json.Parse(begin + s + end)
			if err != nil || value.Depth(v) != api.MaxDepth || !value.Valid(v) {
				t.Errorf("Parse(%q) = %v, %v", begin+s+end, v, err)
			}
		}
		for _, s := range []string{"", "x", "]", "}", ",", "nul", "-", "01", `"`, ".", "1 2", `{"a"`, "{1", "{,", "{", "{ ", "{]", `{"a"]`, `{"a",`, `{"a`, "[]]]", "{}1"} {
			checkWrong(t, begin+s, api.ErrForm)
		}
		checkWrong(t, begin+"1.", api.ErrNumber)
	}
}

func TestParseTellsOfWhatStandsDeeper(t *testing.T) {
	for begin := range begins {
		for _, open := range []string{"[", "[ ", `{"a":`, `{ "a" : `} {
			for _, s := range []string{"null", "1", `"a"`, "[", "{", "[]", "{}", "1]", "null}", "", " ", "\n\t", "}", ",", ":", "x", "nul", "-", "01", "1.5", "99999999999999999999", `"`, `"\q"`, "\x00", "\xff", "é"} {
				checkWrong(t, begin+open+s, api.ErrDeep)
			}
		}
		checkWrong(t, begin+"[}", api.ErrDeep)
		checkWrong(t, begin+`{"a":]`, api.ErrDeep)
	}
	for n := 17; n < 25; n++ {
		checkWrong(t, strings.Repeat("[", n)+strings.Repeat("]", n), api.ErrDeep)
		checkWrong(t, strings.Repeat(`{"a":`, n)+"1"+strings.Repeat("}", n), api.ErrDeep)
	}
}

func TestParseCountsDepthNotBrackets(t *testing.T) {
	checkRead(t, "["+strings.Repeat("[],", 50)+"[]]", list(slices.Repeat([]api.Value{list()}, 51)...))
	checkRead(t, "["+strings.Repeat("{},", 50)+"{}]", list(slices.Repeat([]api.Value{obj()}, 51)...))
	checkRead(t, `"`+strings.Repeat("[", 50)+`"`, txt(strings.Repeat("[", 50)))
	deep := strings.Repeat("[", 15) + strings.Repeat("]", 15)
	if v, err := json.Parse("[" + deep + "," + deep + "]"); err != nil || value.Depth(v) != api.MaxDepth {
		t.Error(v, err)
	}
}

// P4.1: numbers

// around are texts that a number stands in.
var around = []string{"%s", " %s\n", "[%s]", "[1,%s ,2]", `{"a":%s}`, `{"a":[%s],"b":{}}`}

func TestParseReadsNumbers(t *testing.T) {
	for s, want := range map[string]int64{
		"0": 0, "-0": 0, "1": 1, "-1": -1, "9": 9, "-9": -9, "10": 10, "100": 100, "-10": -10, "1000000": 1000000, "90": 90,
		"9007199254740993":     9007199254740993,
		"9223372036854775806":  math.MaxInt64 - 1,
		"9223372036854775807":  math.MaxInt64,
		"-9223372036854775807": math.MinInt64 + 1,
		"-9223372036854775808": math.MinInt64,
	} {
		checkRead(t, s, num(want))
		checkRead(t, "["+s+","+s+"]", list(num(want), num(want)))
		checkRead(t, `{"a":`+s+`}`, obj(field("a", num(want))))
	}
}

func TestParseTellsOfNumbers(t *testing.T) {
	for _, s := range []string{
		"9223372036854775808", "9223372036854775809", "9223372036854775810", "-9223372036854775809", "-9223372036854775810", "18446744073709551615", "18446744073709551616", "-18446744073709551616",
		"10000000000000000000", "99999999999999999999", "-99999999999999999999", "340282366920938463463374607431768211456", "1" + strings.Repeat("0", 400),
		"1.", "1.0", "1.5", "-1.5", "0.", "0.0", "-0.", "-0.0", "0.5", "1e", "1e5", "1E", "1E5", "1e+5", "1e-5", "0e", "0e0", "-0E0", "12.x", "12e?", "1.e", "1..", "1.5e3", "1e1.5", "1ee",
		"9223372036854775807.0", "9223372036854775808.0", "99999999999999999999e0", "99999999999999999999x",
	} {
		for _, a := range around {
			checkWrong(t, fmt.Sprintf(a, s), api.ErrNumber)
			checkWrong(t, strings.SplitAfter(fmt.Sprintf(a, s), s)[0], api.ErrNumber)
		}
	}
}

func TestParseTellsOfWhatIsNoNumber(t *testing.T) {
	for _, s := range []string{
		"00", "01", "-00", "-01", "007", "000", "00.5", "01.5", "01e5", "-01.5", "00E", "0123456789012345678901234567890",
		"-", "--1", "-.5", "-e5", "-E", "-x", "-null", `-"1"`, "-[]", ".", ".5", ".e", "e", "e5", "E5", "+1", "+0", "+", "1+", "1-", "1-2", "1+2", "1_0", "0x10", "0b1", "0o7", "1a", "1f", "1L", "1n",
		"٣", "1٣", "-٣", "１", "1,5,", "1'000", "$1", "1%",
	} {
		for _, a := range around {
			checkWrong(t, fmt.Sprintf(strings.TrimSpace(a), s), api.ErrForm)
		}
	}
}

// P4.1: names

func TestParseTellsOfANameThatIsThere(t *testing.T) {
	for _, s := range []string{
		`{"a":1,"a"`, `{"a":1,"a":2}`, `{"a":1,"a" : 1 }`, `{"a":1,"b":2,"a"`, `{"b":1,"a":2,"b"`, `{"a":1,"b":2,"b"`, `{"c":1,"a":2,"b":3,"a"`,
		`{"":1,""`, `{"a":1,"\u0061"`, `{"\u0061":1,"a"`, `{"\n":1,"\u000a"`, `{"/":1,"\/"`, `{"é":1,"\u00E9"`, `{"😀":1,"\ud83d\ude00"`,
		`{"a":{"a":1},"a"`, `{"b":{"a":1,"a"`, `[{"a":1},{"a":1,"a"`, `{ "a" : 1 , "a"`, `{"a":[],"b":[{"c":{"d":1,"d"`,
	} {
		checkWrong(t, s, api.ErrName)
		for _, behind := range []string{":", "}", "]", ",", " ", "1", "x", "\xff", ":x", ":1.5", ":nul", ":[[[[[[[[[[[[[[[[[[", `:1,"a":1}`, "\x00", `"`} {
			checkWrong(t, s+behind, api.ErrName)
		}
	}
	for s, want := range map[string]api.Value{
		`{"a":{"a":{"a":1}}}`:        obj(field("a", obj(field("a", obj(field("a", num(1))))))),
		`[{"a":1},{"a":1}]`:          list(obj(field("a", num(1))), obj(field("a", num(1)))),
		`{"a":{"b":1},"b":{"a":2}}`:  obj(field("a", obj(field("b", num(1)))), field("b", obj(field("a", num(2))))),
		`{"a":"a","A":"a","a ":"a"}`: obj(field("A", txt("a")), field("a", txt("a")), field("a ", txt("a"))),
		`{"é":1,"e\u0301":2}`:        obj(field("e\u0301", num(2)), field("é", num(1))),
	} {
		checkRead(t, s, want)
	}
}

// orders calls f with each order of the names.
func orders(names []string, f func([]string)) {
	var all func(done, left []string)
	all = func(done, left []string) {
		if len(left) == 0 {
			f(done)
		}
		for i := range left {
			all(append(slices.Clone(done), left[i]), slices.Delete(slices.Clone(left), i, i+1))
		}
	}
	all(nil, names)
}

func TestParsePutsFieldsInOrder(t *testing.T) {
	names := []string{"", "B", "a", "aa", "b", "é"}
	want := obj()
	for i, name := range names {
		want.Fields = append(want.Fields, field(name, num(int64(i))))
	}
	orders(names, func(order []string) {
		var fields []string
		for _, name := range order {
			fields = append(fields, fmt.Sprintf(`"%s":%d`, name, slices.Index(names, name)))
		}
		checkRead(t, "{"+strings.Join(fields, ",")+"}", want)
		checkRead(t, `{"y":[],"x":[{`+strings.Join(fields, " , ")+"}]}", obj(field("x", list(want)), field("y", list())))
		for _, name := range names {
			checkWrong(t, "{"+strings.Join(fields, ",")+`,"`+name+`"`, api.ErrName)
		}
	})
	checkRead(t, `{"\ud83d\ude00":1,"\uffff":2,"\u0000":3}`, obj(field("\x00", num(3)), field("\uffff", num(2)), field("\U0001F600", num(1))))
}

// P4.1: what is told

func TestParseTellsWhatIsWrongFirst(t *testing.T) {
	deep := strings.Repeat("[", 17)
	bits := "9223372036854775808"
	for s, want := range map[string]api.Errno{
		`[1.5,x]`:                          api.ErrNumber,
		`[x,1.5]`:                          api.ErrForm,
		`[1.5 x`:                           api.ErrNumber,
		`[1 x 1.5`:                         api.ErrForm,
		`[01.5]`:                           api.ErrForm,
		`[1.5,` + deep:                     api.ErrNumber,
		`[` + deep + `1.5`:                 api.ErrDeep,
		deep + `x`:                         api.ErrDeep,
		`x` + deep:                         api.ErrForm,
		deep[:16] + `1.5`:                  api.ErrDeep,
		deep[:15] + `1.5`:                  api.ErrNumber,
		`{"a":1.5,"a":2}`:                  api.ErrNumber,
		`{"a":1,"a":2.5}`:                  api.ErrName,
		`{"a":1 "a":2}`:                    api.ErrForm,
		`{"a":1,,"a":2}`:                   api.ErrForm,
		`{"a":1,"a}`:                       api.ErrForm,
		`{"a":1,"a\q"`:                     api.ErrForm,
		`{"a":1,a`:                         api.ErrForm,
		`{"a":` + deep + `,"a":1}`:         api.ErrDeep,
		`{"a":1,"a":` + deep:               api.ErrName,
		`{"a":1,"b" "a":1}`:                api.ErrForm,
		`{"a":1,"b":` + bits + `,"a":1}`:   api.ErrNumber,
		`{"a":1,"b":x,"a":1}`:              api.ErrForm,
		`{"a":1}` + bits:                   api.ErrForm,
		`1 1.5`:                            api.ErrForm,
		`1.5 1`:                            api.ErrNumber,
		bits + ` x`:                        api.ErrNumber,
		`[` + bits:                         api.ErrNumber,
		`[1]]` + deep:                      api.ErrForm,
		`{"a":[1,2}`:                       api.ErrForm,
		`{"a":[1,2],"b":[3},"a"`:           api.ErrForm,
		`["\q",1.5]`:                       api.ErrForm,
		`[1.5,"\q"]`:                       api.ErrNumber,
		deep[:15] + `{"a":1`:               api.ErrDeep,
		deep[:15] + `{"a" 1`:               api.ErrForm,
		deep[:14] + `{"a":1,"a":[[`:        api.ErrName,
		deep[:14] + `{"a":1,"b":[[,"a":`:   api.ErrDeep,
		deep[:14] + `{"a":1,"b":[],"a":[[`: api.ErrName,
		deep[:14] + `{"a":1,"b":[1.5`:      api.ErrDeep,
	} {
		checkWrong(t, s, want)
	}
}

func TestParseNeedsAllOfIt(t *testing.T) {
	whole := strings.Join(parts, "\n")
	for n := range len(whole) {
		checkWrong(t, whole[:n], api.ErrForm)
	}
	for _, s := range []string{"", " ", "\n\t\r ", "[", "{", `{"`, `{"a"`, `{"a":`, `{"a":1`, `{"a":1,`, "[1", "[1,", `["`, "-", "n"} {
		checkWrong(t, s, api.ErrForm)
		checkWrong(t, s+" ", api.ErrForm)
	}
}

func TestParseTakesNothingBehind(t *testing.T) {
	for _, s := range []string{"null", "true", "7 ", `"a"`, "[]", "[1]", "{}", `{"a":1}`} {
		for _, behind := range []string{"1", "x", "]", "}", ",", ":", `"`, `"a"`, "[]", "{}", "null", "-", "\x00", "\xff", ";", "+"} {
			checkWrong(t, s+behind, api.ErrForm)
			checkWrong(t, s+"\n"+behind, api.ErrForm)
		}
		checkWrong(t, s+s, api.ErrForm)
		checkWrong(t, s+" "+s, api.ErrForm)
	}
}

func TestParseTellsOfCommasAndColons(t *testing.T) {
	for _, s := range []string{
		"[,]", "[,1]", "[1,]", "[1,,2]", "[1 2]", "[1;2]", "[1:2]", "[[][]]", "[{}{}]", `["a""b"]`, "[,,]", "[1,2,]", "[:]", "[1}", "[}", "[1,2", ",", "1,", ",1", "[1],", "]", "[]]", "[)", `["a":1]`, "(1)",
		"{,}", "{:}", `{,"a":1}`, `{"a":1,}`, `{"a":1,,"b":2}`, `{"a":1 "b":2}`, `{"a":1;"b":2}`, `{"a":1:"b":2}`, `{"a"}`, `{"a":}`, `{"a"1}`, `{"a",1}`, `{"a"::1}`, `{"a"=1}`, `{:1}`, `{"a":,}`, `{"a",}`,
		`{"a","b"}`, `{"a":1,"b"}`, `{"a":1,"b":}`, `{"a":1]`, "{]", "}", "{}}", `{"a":1}}`, `{"a":1,2}`, `{"a":1 2}`, ":", `"a":1`, "{1}", "{1:1}", "{a:1}", "{'a':1}", "{null:1}", "{true:1}", "{[]:1}", "{{}:1}", "{[]}", "{{}}",
	} {
		checkWrong(t, s, api.ErrForm)
		checkWrong(t, "["+s+"]", api.ErrForm)
		checkWrong(t, `{"z":`+s+"}", api.ErrForm)
	}
}

// P4.2

func TestPrint(t *testing.T) {
	for want, v := range map[string]api.Value{
		"null":                            null,
		"false":                           no,
		"true":                            yes,
		"0":                               num(0),
		"1":                               num(1),
		"-1":                              num(-1),
		"1000000":                         num(1000000),
		"9223372036854775807":             num(math.MaxInt64),
		"-9223372036854775808":            num(math.MinInt64),
		"9007199254740993":                num(9007199254740993),
		`""`:                              txt(""),
		`"a b"`:                           txt("a b"),
		`"\"\\/\b\t\n\f\r\u0000\u001f"`:   txt("\"\\/\b\t\n\f\r\x00\x1f"),
		"\"é\u2028<&>\x7f\U0001F600\"":    txt("é\u2028<&>\x7f\U0001F600"),
		"[]":                              list(),
		"[null]":                          list(null),
		"[1,2]":                           list(num(1), num(2)),
		`[true,false,"a",[],{},-3]`:       list(yes, no, txt("a"), list(), obj(), num(-3)),
		"[[[]],[[],[]]]":                  list(list(list()), list(list(), list())),
		"{}":                              obj(),
		`{"":0}`:                          obj(field("", num(0))),
		`{"a":null,"b":[1],"c":{"a":{}}}`: obj(field("a", null), field("b", list(num(1))), field("c", obj(field("a", obj())))),
		`{"\n":1,"\"":2,"\\":3,"é":"\t"}`: obj(field("\n", num(1)), field(`"`, num(2)), field(`\`, num(3)), field("é", txt("\t"))),
	} {
		if got := json.Print(v); got != want {
			t.Errorf("Print(%v) = %s, want %s", v, got, want)
		}
		if !value.Valid(v) {
			t.Errorf("%v is not Valid", v)
		}
	}
	empty := []api.Value{{Kind: api.List, List: []api.Value{}}, {Kind: api.Object, Fields: []api.Field{}}}
	if got := json.Print(list(empty...)); got != "[[],{}]" {
		t.Errorf("Print of what is empty, not nil = %s", got)
	}
}

func TestPrintHasNoLimits(t *testing.T) {
	v, want := num(1), "1"
	for range 49 {
		v, want = list(obj(field("a", v))), `[{"a":`+want+`}]`
	}
	if got := json.Print(v); got != want {
		t.Errorf("Print of what is deep = %s", got)
	}
	long := strings.Repeat("é", 1<<16)
	if got := json.Print(obj(field(long, list(txt(long))))); got != `{"`+long+`":["`+long+`"]}` {
		t.Errorf("Print of what is long has %d bytes", len(got))
	}
	if got := json.Print(list(slices.Repeat([]api.Value{yes}, 1<<16)...)); got != "["+strings.Repeat("true,", 1<<16-1)+"true]" {
		t.Errorf("Print of what is wide has %d bytes", len(got))
	}
}

func TestPrintDoesNotPanic(t *testing.T) {
	for _, kind := range []api.Kind{math.MinInt64, -1, api.Null, api.Bool, api.Int, api.Text, api.List, api.Object, 6, math.MaxInt64} {
		v := api.Value{Kind: kind, Int: 7, Text: "\xff", List: []api.Value{{Kind: -1}}, Fields: []api.Field{{Name: "b"}, {Name: "a"}, {Name: "\xff"}}}
		json.Print(v)
		json.Print(list(v, v))
		json.Print(obj(field("a", v)))
	}
}

func TestExamples(t *testing.T) {
	v, err := json.Parse(`{"b":1, "a":[]}`)
	if got := json.Print(v); got != `{"a":[],"b":1}` || err != nil {
		t.Error(got, err)
	}
	checkWrong(t, "1.0", api.ErrNumber)
	checkWrong(t, `{"a":1,"a":2}`, api.ErrName)
}

// W6

func TestAnswersShareNothing(t *testing.T) {
	const s = `{"a":[1,[2,3],{"b":4}],"c":[[],[]]}`
	spoilt, _ := json.Parse(s)
	v, _ := json.Parse(s)
	for i := range spoilt.Fields[0].Value.List {
		spoilt.Fields[0].Value.List[i] = txt("spoilt")
	}
	pair := spoilt.Fields[1].Value.List
	pair[0].List = append(pair[0].List, yes)
	pair[1].List = append(pair[1].List, no)
	if !same(pair[0], list(yes)) {
		t.Error("two lists of one answer share memory")
	}
	if got := json.Print(v); got != s {
		t.Errorf("%s changed with another answer, want %s", got, s)
	}
	checkRead(t, s, v)
}
