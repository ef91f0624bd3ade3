package index_test

import (
	"fmt"
	"slices"
	"strings"
	"testing"

	"roundelay/api"
	"roundelay/fault"
	"roundelay/heap"
	"roundelay/index"
	"roundelay/json"
	"roundelay/key"
	"roundelay/path"
)

func num(n int64) api.Value { return api.Value{Kind: api.Int, Int: n} }

func txt(s string) api.Value { return api.Value{Kind: api.Text, Text: s} }

func list(vs ...api.Value) api.Value { return api.Value{Kind: api.List, List: vs} }

func obj(fs ...api.Field) api.Value { return api.Value{Kind: api.Object, Fields: fs} }

func field(name string, v api.Value) api.Field { return api.Field{Name: name, Value: v} }

func entry(k string, id int64) api.Entry { return api.Entry{Key: k, ID: id} }

// show is entries as one can read them.
func show(es ...api.Entry) []string {
	var out []string
	for _, e := range es {
		out = append(out, fmt.Sprintf("%q %d", e.Key, e.ID))
	}
	return out
}

// by is a description with that path.
func by(path string) api.Spec { return api.Spec{Name: "i", Path: path} }

func value(t *testing.T, s string) api.Value {
	t.Helper()
	v, err := json.Parse(s)
	if err != nil {
		t.Fatalf("%s: %v", s, err)
	}
	return v
}

// P10.1: Check

// both are a description that is Unique, and one that is not.
func both(name, path string) []api.Spec {
	return []api.Spec{{Name: name, Path: path}, {Name: name, Path: path, Unique: true}}
}

func checkSpec(t *testing.T, name, path string, want api.Errno) {
	t.Helper()
	for _, s := range both(name, path) {
		err := index.Check(s)
		if got := fault.Code(err); got != want || (err == nil) != (want == api.OK) {
			t.Errorf("Check of name %.60q, path %.60q, %t = %v; want %v", name, path, s.Unique, err, want)
		}
	}
}

// x8 is a path of as many parts as there may be, each of as many bytes.
var x8 = strings.Repeat(strings.Repeat("x", 32)+".", 7) + strings.Repeat("x", 32)

// isPath are some, no two of them wrong or right for the same reason.
var isPath = []string{"a", "a.b", "a.b.0", "0", "1.2.3.4.5.6.7.8", strings.Repeat("x", 32), x8, "A", "é.€", strings.Repeat("é", 16), " ", "\x00", "-1.+1.01", "$a", "a_b.c d"}

var noPath = []string{"", ".", "a.", ".a", "a..b", "1.2.3.4.5.6.7.8.9", "1.2.3.4.5.6.7.8.", ".1.2.3.4.5.6.7.8", x8 + ".a", strings.Repeat("x", 33), "a." + strings.Repeat("x", 33), strings.Repeat("é", 16) + "x", "\xff", "a.\xff", "\x80.a", "a\xc3", "\xed\xa0\x80", strings.Repeat("a.", 1<<16), strings.Repeat("x", 1<<16)}

const nameBytes = "abcdefghijklmnopqrstuvwxyz0123456789_"

func TestCheckOfNames(t *testing.T) {
	for _, name := range []string{"a", "z", "0", "9", "_", "a_1", "by_name", "1a", "_a", "a_", "__", "00", "index", nameBytes[:16], nameBytes[16:32], nameBytes[21:], strings.Repeat("_", 16), strings.Repeat("0", 16)} {
		checkSpec(t, name, "x.y", api.OK)
	}
}

func TestCheckOfNamesByLength(t *testing.T) {
	for n := range 70 {
		want := api.OK
		if n == 0 || n > 16 {
			want = api.ErrName
		}
		for _, c := range []string{"a", "z", "0", "9", "_"} {
			checkSpec(t, strings.Repeat(c, n), "x", want)
		}
	}
	for _, n := range []int{255, 256, 257, 272, 1 << 12, 1<<16 + 1, 1 << 20} {
		checkSpec(t, strings.Repeat("a", n), "x", api.ErrName)
	}
}

func TestCheckOfEachByteOfANameAtEachPlace(t *testing.T) {
	for c := range 256 {
		want := api.ErrName
		if strings.IndexByte(nameBytes, byte(c)) >= 0 {
			want = api.OK
		}
		for n := 1; n <= 16; n++ {
			for at := range n {
				name := []byte(nameBytes[n : 2*n])
				name[at] = byte(c)
				checkSpec(t, string(name), "x", want)
			}
		}
	}
}

func TestCheckOfOtherCharactersInANameAtEachPlace(t *testing.T) {
	for _, s := range []string{"/", ":", "`", "{", "^", "@", "A", "Z", "[", "-", ".", " ", "\n", "\x00", "\x7f", "\x80", "\xff", "\xc3", "é", "ß", "ſ", "а", "٣", "ａ", "０", "＿", "₁", "‿", "K", "\U0001d41a", "a\u0301", "\ufffd", "\ufeff", "\xc1\xa1"} {
		for n := range 16 {
			for at := range n + 1 {
				name := strings.Repeat("a", at) + s + strings.Repeat("b", n-at)
				checkSpec(t, name, "x", api.ErrName)
			}
		}
	}
}

func TestCheckTellsOfTheNameAheadOfThePath(t *testing.T) {
	for _, name := range []string{"", "A", "a b", "a.b", "é", "\xff", "\x00", "a/", "{", strings.Repeat("a", 17), strings.Repeat("a", 1<<16)} {
		for _, path := range noPath {
			checkSpec(t, name, path, api.ErrName)
		}
		for _, path := range isPath {
			checkSpec(t, name, path, api.ErrName)
		}
	}
}

func TestCheckOfPaths(t *testing.T) {
	for _, name := range []string{"a", "_", "9", "a_1", strings.Repeat("z", 16)} {
		for _, path := range isPath {
			checkSpec(t, name, path, api.OK)
		}
		for _, path := range noPath {
			checkSpec(t, name, path, api.ErrPath)
		}
	}
}

func TestCheckTellsWhatParseTells(t *testing.T) {
	for _, s := range slices.Concat(isPath, noPath) {
		_, err := path.Parse(s)
		checkSpec(t, "i", s, fault.Code(err))
	}
}

func TestCheckOfAZeroOne(t *testing.T) {
	for range 2 {
		if err := index.Check(api.Spec{}); fault.Code(err) != api.ErrName {
			t.Errorf("Check = %v", err)
		}
	}
}

// P10.1: Key

// names may be, and may not be: Key asks nothing of them.
var names = []string{"i", "", "A", "a b", "\xff", strings.Repeat("a", 16), strings.Repeat("a", 17)}

func checkKey(t *testing.T, v api.Value, path, want string) {
	t.Helper()
	for _, name := range names {
		for _, s := range both(name, path) {
			if k, ok := index.Key(s, v); k != want || !ok {
				t.Errorf("Key by %.60q of %s = %q, %t; want %q", path, json.Print(v), k, ok, want)
			}
		}
	}
}

func checkNoKey(t *testing.T, v api.Value, path string) {
	t.Helper()
	for _, name := range names {
		for _, s := range both(name, path) {
			if k, ok := index.Key(s, v); k != "" || ok {
				t.Errorf("Key by %.60q of %s = %q, %t; want none", path, json.Print(v), k, ok)
			}
		}
	}
}

func TestKeyIsWrittenInBytes(t *testing.T) {
	for s, want := range map[string]string{
		"null":                 "\x01",
		"false":                "\x02\x00",
		"true":                 "\x02\x01",
		"0":                    "\x03\x80\x00\x00\x00\x00\x00\x00\x00",
		"1":                    "\x03\x80\x00\x00\x00\x00\x00\x00\x01",
		"-1":                   "\x03\x7f\xff\xff\xff\xff\xff\xff\xff",
		"9223372036854775807":  "\x03\xff\xff\xff\xff\xff\xff\xff\xff",
		"-9223372036854775808": "\x03\x00\x00\x00\x00\x00\x00\x00\x00",
		`""`:                   "\x04\x00\x01",
		`"b"`:                  "\x04b\x00\x01",
		`"b\u0000c"`:           "\x04b\x00\xffc\x00\x01",
		`"é"`:                  "\x04\xc3\xa9\x00\x01",
		"[]":                   "\x05\x00",
		"[null,[true]]":        "\x05\x01\x05\x02\x01\x00\x00",
		"{}":                   "\x06\x00",
		`{"b":null,"c":"d"}`:   "\x06\x01b\x00\x01\x01\x01c\x00\x01\x04d\x00\x01\x00",
	} {
		checkKey(t, value(t, `{"a":`+s+`}`), "a", want)
		checkKey(t, value(t, `{"":5,"b":[7,{"a":`+s+`}],"c":null}`), "b.1.a", want)
		checkKey(t, value(t, "["+s+"]"), "0", want)
	}
}

func TestKeyOfEachKind(t *testing.T) {
	for _, s := range []string{"null", "true", "false", "0", "-7", `""`, `"null"`, `"5"`, "[]", "[[],{}]", "{}", `{"a":{"a":1}}`, `[{"a":[0,"b"]},null,true]`} {
		v := value(t, s)
		checkKey(t, obj(field("a", v)), "a", key.Put(v))
		checkKey(t, obj(field("a", obj(field("b", num(1)), field("c", v)))), "a.c", key.Put(v))
		checkKey(t, list(num(3), v), "1", key.Put(v))
	}
}

func TestKeyByPath(t *testing.T) {
	v := value(t, `{"0":"zero","01":"more","a":{"0":10,"b":{"c":[5,[6,7],{"d":8}]},"é":9},"b":[1,{"0":2}],"long name":3,"A":4,"-1":11}`)
	for path, want := range map[string]api.Value{
		"a.b.c.0":   num(5),
		"a.b.c.1.0": num(6),
		"a.b.c.1.1": num(7),
		"a.b.c.2.d": num(8),
		"a.b.c.1":   list(num(6), num(7)),
		"a.b.c.2":   obj(field("d", num(8))),
		"a.é":       num(9),
		"a.0":       num(10),
		"0":         txt("zero"),
		"01":        txt("more"),
		"-1":        num(11),
		"b":         list(num(1), obj(field("0", num(2)))),
		"b.0":       num(1),
		"b.1":       obj(field("0", num(2))),
		"b.1.0":     num(2),
		"long name": num(3),
		"A":         num(4),
	} {
		checkKey(t, v, path, key.Put(want))
	}
	for _, path := range []string{"c", "B", "a.c", "a.B", "a.b.d", "a.b.c.3", "a.b.c.d", "a.b.c.1.2", "a.b.c.0.0", "a.b.c.2.e", "a.b.c.2.d.e", "1", "00", "+1", "b.00", "b.01", "b.-1", "b.+1", "b.2", "b.1.1", "b.1e0", "b. 1", "b.1 ", "b.18446744073709551617", "b.4294967297", "0.0", "0.z", "long", "long name ", "a.b.c.0.d.e.f.g"} {
		checkNoKey(t, v, path)
	}
}

func TestKeyOfALongListByDigits(t *testing.T) {
	v := list()
	for i := range int64(120) {
		v.List = append(v.List, num(1000+i))
	}
	for path, want := range map[string]int64{"0": 1000, "9": 1009, "10": 1010, "11": 1011, "99": 1099, "100": 1100, "119": 1119} {
		checkKey(t, v, path, key.Put(num(want)))
		checkKey(t, obj(field("a", v)), "a."+path, key.Put(num(want)))
	}
	for _, path := range []string{"120", "1000", "010", "00", "0x1", "1_0", "١", "९"} {
		checkNoKey(t, v, path)
	}
}

func TestKeyByAsMuchAsAPathMayBe(t *testing.T) {
	x32 := strings.Repeat("x", 32)
	v := nest(num(5), slices.Repeat([]string{x32}, 8)...)
	checkKey(t, v, x8, key.Put(num(5)))
	checkKey(t, v, x32, key.Put(v.Fields[0].Value))
	checkKey(t, v, x8[33:], key.Put(nest(num(5), x32)))
	checkNoKey(t, v, x8[1:])
	checkNoKey(t, v, x8[:len(x8)-1])
}

func TestKeyOfWhatHasNoParts(t *testing.T) {
	for _, s := range []string{"null", "true", "false", "0", "5", `""`, `"a"`, `"0"`, "[]", "{}"} {
		v := value(t, s)
		for _, path := range []string{"a", "0", "a.b", "0.0", "5", "null"} {
			checkNoKey(t, v, path)
			checkNoKey(t, obj(field("b", v)), "b."+path)
			checkNoKey(t, list(v), "0."+path)
		}
	}
}

// nest is v in as many objects as there are names, each in the field of the one around it.
func nest(v api.Value, names ...string) api.Value {
	for _, name := range slices.Backward(names) {
		v = obj(field(name, v))
	}
	return v
}

// asIfPaths are values in which something stands where each of noPath leads to, if it is taken for a path all the same.
func asIfPaths() []api.Value {
	out := []api.Value{{}, num(1), txt("a"), list(num(1)), obj()}
	for _, s := range noPath {
		if parts := strings.Split(s, "."); len(parts) < 50 {
			out = append(out, nest(num(1), parts...), nest(num(1), s), nest(list(num(1)), parts[:len(parts)-1]...))
		}
	}
	return append(out, nest(num(1), slices.Repeat([]string{"a"}, 50)...))
}

func TestKeyByNoPath(t *testing.T) {
	vs := asIfPaths()
	for _, s := range noPath {
		for _, v := range vs {
			checkNoKey(t, v, s)
		}
	}
}

func TestKeyByAsManyPartsAsThereMayBe(t *testing.T) {
	v := nest(num(1), slices.Repeat([]string{"a"}, 9)...)
	for n := 1; n <= 8; n++ {
		want := nest(num(1), slices.Repeat([]string{"a"}, 9-n)...)
		checkKey(t, v, "a"+strings.Repeat(".a", n-1), key.Put(want))
	}
	checkNoKey(t, v, "a.a.a.a.a.a.a.a.a")
	checkNoKey(t, v, "a.a.a.a.a.a.a.a.")
	checkNoKey(t, v, "")
}

func TestKeyOfTheExample(t *testing.T) {
	checkKey(t, value(t, `{"a":1}`), "a", "\x03\x80\x00\x00\x00\x00\x00\x00\x01")
	checkNoKey(t, value(t, `{"b":1}`), "a")
}

// P10.2: Of

// heapOf is one of these records, whose numbers are from 1 on.
func heapOf(t *testing.T, vs ...api.Value) *heap.Heap {
	t.Helper()
	h := heap.New()
	for _, v := range vs {
		if _, ok := h.Insert(v); !ok {
			t.Fatal("no room")
		}
	}
	return h
}

// records are values written as JSON.
func records(t *testing.T, ss ...string) []api.Value {
	t.Helper()
	var out []api.Value
	for _, s := range ss {
		out = append(out, value(t, s))
	}
	return out
}

// checkOf asks twice, by names that may be and that may not be, Unique or not.
func checkOf(t *testing.T, h *heap.Heap, path string, want ...api.Entry) {
	t.Helper()
	for _, name := range names[:4] {
		for _, s := range both(name, path) {
			for range 2 {
				if got := index.Of(s, h); !slices.Equal(got, want) {
					t.Errorf("Of by %.60q = %s; want %s", path, show(got...), show(want...))
				}
			}
		}
	}
}

func k(n int64) string { return key.Put(num(n)) }

func TestOfNoRecord(t *testing.T) {
	checkOf(t, heap.New(), "a")
	checkOf(t, heap.New(), "")
}

func TestOfOneRecord(t *testing.T) {
	h := heapOf(t, value(t, `{"a":5}`))
	checkOf(t, h, "a", entry("\x03\x80\x00\x00\x00\x00\x00\x00\x05", 1))
	checkOf(t, h, "b")
	checkOf(t, h, "a.b")
}

func TestOfRecordsOfWhichAllSomeNoneHaveAKey(t *testing.T) {
	h := heapOf(t, records(t, `{"a":3,"b":1}`, `{"a":2}`, `{"a":1,"b":0}`, `{"a":4,"b":null}`, `{"a":[0,7]}`)...)
	checkOf(t, h, "a", entry(k(1), 3), entry(k(2), 2), entry(k(3), 1), entry(k(4), 4), entry(key.Put(list(num(0), num(7))), 5))
	checkOf(t, h, "b", entry(key.Put(api.Value{}), 4), entry(k(0), 3), entry(k(1), 1))
	checkOf(t, h, "a.1", entry(k(7), 5))
	for _, path := range []string{"c", "A", "a.2", "a.b", "b.0"} {
		checkOf(t, h, path)
	}
}

func TestOfByNoPath(t *testing.T) {
	h := heapOf(t, asIfPaths()...)
	for _, path := range noPath {
		checkOf(t, h, path)
	}
}

func TestOfRecordsThatAreNoObjects(t *testing.T) {
	h := heapOf(t, num(5), txt("a"), list(num(7)), api.Value{}, list(list(), num(3)), value(t, `{"0":6}`), list())
	checkOf(t, h, "0", entry(k(6), 6), entry(k(7), 3), entry(key.Put(list()), 5))
	checkOf(t, h, "a")
}

func TestOfIsInTheOrderOfKeys(t *testing.T) {
	rising := records(t, "null", "false", "true", "-9223372036854775808", "-256", "-2", "-1", "0", "1", "2", "127", "128", "255", "256", "9223372036854775807", `""`, `"\u0000"`, `"\u0000a"`, `"\u0001"`, `"A"`, `"a"`, `"a\u0000"`, `"a\u0000b"`, `"a\u0001"`, `"aa"`, `"ab"`, `"b"`, `"é"`, `"€"`, `"😀"`, "[]", "[null]", "[null,null]", "[0]", "[1]", "[1,0]", "[1,2]", "[[]]", "[{}]", "{}", `{"a":null}`, `{"a":1}`, `{"a":1,"b":1}`, `{"b":0}`)
	n := int64(len(rising))
	up, down := heap.New(), heap.New()
	var want, wantDown []api.Entry
	for i := range n {
		up.Insert(obj(field("v", rising[i])))
		down.Insert(obj(field("v", rising[n-1-i])))
		want = append(want, entry(key.Put(rising[i]), i+1))
		wantDown = append(wantDown, entry(key.Put(rising[i]), n-i))
	}
	checkOf(t, up, "v", want...)
	checkOf(t, down, "v", wantDown...)
	for i := range want[1:] {
		if want[i].Key >= want[i+1].Key {
			t.Errorf("%q is not below %q", want[i].Key, want[i+1].Key)
		}
	}
}

func TestOfTextsThatOthersBeginWith(t *testing.T) {
	h := heapOf(t, records(t, `{"a":"xyz"}`, `{"a":"xy"}`, `{"a":"x"}`, `{"a":""}`, `{"a":"x"}`, `{"a":"xy"}`, `{"a":"x\u0000"}`)...)
	of := func(s string, id int64) api.Entry { return entry("\x04"+s+"\x00\x01", id) }
	checkOf(t, h, "a", of("", 4), of("x", 3), of("x", 5), of("x\x00\xff", 7), of("xy", 2), of("xy", 6), of("xyz", 1))
}

func TestOfRecordsThatShareAKey(t *testing.T) {
	h := heapOf(t, records(t, `{"a":5}`, `{"b":1}`, `{"a":2}`, `{"a":5}`, `{"a":2}`, `{"a":5,"b":1}`)...)
	checkOf(t, h, "a", entry(k(2), 3), entry(k(2), 5), entry(k(5), 1), entry(k(5), 4), entry(k(5), 6))
	checkOf(t, h, "b", entry(k(1), 2), entry(k(1), 6))
}

func TestOfNumbersOfMoreThanOneDigit(t *testing.T) {
	h := heap.New()
	var same, mod [3][]api.Entry
	for id := int64(1); id <= api.MaxRecords; id++ {
		h.Insert(obj(field("m", num(-id%3)), field("s", txt("all"))))
		same[0] = append(same[0], entry(key.Put(txt("all")), id))
		mod[2-id%3] = append(mod[2-id%3], entry(k(-id%3), id))
	}
	checkOf(t, h, "s", same[0]...)
	checkOf(t, h, "m", slices.Concat(mod[0], mod[1], mod[2])...)
}

func TestOfNumbersThatWereGivenLongAgo(t *testing.T) {
	h := heap.New()
	for id := int64(1); id <= 10001; id++ {
		h.Insert(obj(field("a", num(id%2))))
		if id != 2 && id != 9 && id != 10 && id != 98 && id != 1001 && id < 9999 {
			h.Delete(id)
		}
	}
	checkOf(t, h, "a", entry(k(0), 2), entry(k(0), 10), entry(k(0), 98), entry(k(0), 10000), entry(k(1), 9), entry(k(1), 1001), entry(k(1), 9999), entry(k(1), 10001))
}

func TestOfRecordsThatWereDeleted(t *testing.T) {
	h := heapOf(t, records(t, `{"a":1}`, `{"a":2}`, `{"a":3}`, `{"a":2}`)...)
	h.Delete(2)
	checkOf(t, h, "a", entry(k(1), 1), entry(k(2), 4), entry(k(3), 3))
	h.Delete(1)
	checkOf(t, h, "a", entry(k(2), 4), entry(k(3), 3))
	h.Insert(value(t, `{"a":0}`))
	checkOf(t, h, "a", entry(k(0), 5), entry(k(2), 4), entry(k(3), 3))
	h.Delete(5)
	h.Delete(4)
	checkOf(t, h, "a", entry(k(3), 3))
	h.Delete(3)
	checkOf(t, h, "a")
	h.Insert(value(t, `{"a":1}`))
	checkOf(t, h, "a", entry(k(1), 6))
}

func TestOfRecordsThatWereSetAnew(t *testing.T) {
	h := heapOf(t, records(t, `{"a":1}`, `{"b":2}`, `{"a":3}`)...)
	h.Set(1, value(t, `{"a":4}`))
	checkOf(t, h, "a", entry(k(3), 3), entry(k(4), 1))
	h.Set(2, value(t, `{"a":3,"b":2}`))
	checkOf(t, h, "a", entry(k(3), 2), entry(k(3), 3), entry(k(4), 1))
	h.Set(3, value(t, `{"b":3}`))
	checkOf(t, h, "a", entry(k(3), 2), entry(k(4), 1))
	checkOf(t, h, "b", entry(k(2), 2), entry(k(3), 3))
	h.Set(2, num(5))
	h.Set(1, obj())
	checkOf(t, h, "a")
	checkOf(t, h, "b", entry(k(3), 3))
}

func TestOfTellsWhatKeyTells(t *testing.T) {
	vs := records(t, `{"a":{"b":[1,2]}}`, `{"a":{"b":7}}`, `{"a":[{"b":1}]}`, `{"b":[9]}`, `[1,2]`, `{"0":3,"a":{"b":7}}`)
	h := heapOf(t, vs...)
	for _, s := range []string{"a", "b", "a.b", "a.b.0", "a.0", "a.0.b", "b.0", "0", "1", "c", "", "a..b"} {
		var want []api.Entry
		for i, v := range vs {
			if k, ok := index.Key(by(s), v); ok {
				want = append(want, entry(k, int64(i+1)))
			}
		}
		got := index.Of(by(s), h)
		slices.SortFunc(got, func(a, b api.Entry) int { return int(a.ID - b.ID) })
		if !slices.Equal(got, want) {
			t.Errorf("Of by %q = %s; want %s", s, show(got...), show(want...))
		}
	}
}
