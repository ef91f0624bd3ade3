package path_test

import (
	"maps"
	"math/rand"
	"slices"
	"strconv"
	"strings"
	"testing"
	"unicode/utf8"

	"roundelay/api"
	"roundelay/fault"
	"roundelay/path"
	"roundelay/value"
)

// Here Parse is held against a machine of another make.

// checkParse holds what Parse tells of s against a cut of s byte by byte.
func checkParse(t *testing.T, s string) {
	t.Helper()
	want, part, right := []string(nil), "", utf8.ValidString(s)
	for i := 0; i <= len(s); i++ {
		if i < len(s) && s[i] != '.' {
			part += s[i : i+1]
			continue
		}
		right = right && part != "" && len(part) <= 32
		want, part = append(want, part), ""
	}
	if !right || len(want) > 8 {
		checkNoPath(t, s)
		return
	}
	got, err := path.Parse(s)
	if err != nil || !slices.Equal(got, want) {
		t.Errorf("Parse(%q) = %q, %v; want %q", s, got, err, want)
	}
}

func TestParseOfAllShortTexts(t *testing.T) {
	l := []string{""}
	for from := 0; len(l) < 20000; {
		to := len(l)
		for _, s := range l[from:to] {
			for _, more := range []string{".", "a", "é", "\xc3", "0", "é.", strings.Repeat("x", 15), ".b.c"} {
				l = append(l, s+more)
			}
		}
		from = to
	}
	for _, s := range l {
		checkParse(t, s)
	}
}

func FuzzParse(f *testing.F) {
	for _, s := range []string{"", "a.b.0", "é.€", "a..b", "1.2.3.4.5.6.7.8.9", strings.Repeat("x", 33)} {
		f.Add(s)
	}
	f.Fuzz(func(t *testing.T, s string) { checkParse(t, s) })
}

// Here Find, Put and Cut are held against a machine that knows values as plain maps: of each value that stands in another one the way to it, and what it is without what is in it.

// flat is such a map.
type flat map[string]api.Value

// slashed is a way as a text: each part with a slash ahead of it. No part that is tried here has a slash.
func slashed(parts []string) string {
	out := ""
	for _, part := range parts {
		out += "/" + part
	}
	return out
}

// add adds a value, and all that is in it.
func (f flat) add(at string, v api.Value) {
	f[at] = api.Value{Kind: v.Kind, Int: v.Int, Text: v.Text}
	for i, x := range v.List {
		f.add(at+"/"+strconv.Itoa(i), x)
	}
	for _, x := range v.Fields {
		f.add(at+"/"+x.Name, x.Value)
	}
}

func flatOf(v api.Value) flat {
	out := flat{}
	out.add("", v)
	return out
}

// drop takes away what stands at the end of a way, and all that is in it.
func (f flat) drop(at string) {
	maps.DeleteFunc(f, func(k string, _ api.Value) bool { return k == at || strings.HasPrefix(k, at+"/") })
}

// find is all that stands at the end of a way.
func (f flat) find(parts []string) (flat, bool) {
	at, out := slashed(parts), flat{}
	for k, v := range f {
		if k == at || strings.HasPrefix(k, at+"/") {
			out[k[len(at):]] = v
		}
	}
	return out, len(out) > 0
}

// put tells whether x may stand at the end of a way, and puts it there then.
func (f flat) put(parts []string, x api.Value) bool {
	for i := range parts {
		v := f[slashed(parts[:i])]
		_, there := f[slashed(parts[:i+1])]
		if !there && v.Kind != api.Object {
			return false
		}
		if !there {
			f[slashed(parts[:i+1])] = empty
		}
	}
	f.drop(slashed(parts))
	f.add(slashed(parts), x)
	return true
}

// cut tells whether there is such a field, and takes it away then.
func (f flat) cut(parts []string) bool {
	if len(parts) == 0 || f[slashed(parts[:len(parts)-1])].Kind != api.Object {
		return false
	}
	_, there := f[slashed(parts)]
	f.drop(slashed(parts))
	return there
}

func (f flat) equal(v api.Value) bool { return maps.EqualFunc(f, flatOf(v), same) }

// names are those that fields of values that are tried have; they rise.
var names = []string{"", "0", "00", "1", "a", "b", "é"}

// steps are the parts that are tried.
var steps = []string{"", "0", "00", "01", "1", "2", "-1", "+0", "a", "b", "c", "é"}

// anyValue makes a Valid value out of few things.
func anyValue(r *rand.Rand, deep int) api.Value {
	kinds := 10
	if deep == 0 {
		kinds = 4
	}
	switch kind := r.Intn(kinds); kind {
	case 0:
		return null
	case 1:
		return []api.Value{no, yes}[r.Intn(2)]
	case 2:
		return num(int64(r.Intn(3) - 1))
	case 3:
		return txt(names[r.Intn(len(names))])
	case 4, 5, 6:
		v := list()
		for range r.Intn(4) {
			v.List = append(v.List, anyValue(r, deep-1))
		}
		return v
	}
	v := obj()
	for _, name := range names {
		if r.Intn(2) == 0 {
			v.Fields = append(v.Fields, field(name, anyValue(r, deep-1)))
		}
	}
	return v
}

// anyWay makes one that leads to something in f as often as not.
func anyWay(r *rand.Rand, f flat) []string {
	var parts []string
	if r.Intn(4) > 0 {
		there := slices.Sorted(maps.Keys(f))
		if at := there[r.Intn(len(there))]; at != "" {
			parts = strings.Split(at[1:], "/")
		}
	}
	for range r.Intn(3) {
		parts = append(parts, steps[r.Intn(len(steps))])
	}
	return parts
}

func TestFindPutAndCutAgainstMaps(t *testing.T) {
	r := rand.New(rand.NewSource(6))
	seen := map[string]int{}
	count := func(what string, ok bool) { seen[what+" "+strconv.FormatBool(ok)]++ }
	for range 20000 {
		v, x := anyValue(r, 4), anyValue(r, 2)
		f := flatOf(v)
		parts := anyWay(r, f)

		want, there := f.find(parts)
		got, ok := path.Find(v, parts)
		count("find", there)
		if ok != there || there && !want.equal(got) || !there && !same(got, null) {
			t.Errorf("Find(%v, %q) = %v, %t", v, parts, got, ok)
		}

		with := flatOf(v)
		may := with.put(parts, x)
		got, err := path.Put(v, parts, x)
		count("put", may)
		if may && (err != nil || !with.equal(got)) || !may && (fault.Code(err) != api.ErrPath || !same(got, null)) || !value.Valid(got) {
			t.Errorf("Put(%v, %q, %v) = %v, %v", v, parts, x, got, err)
		}

		there = f.cut(parts)
		got, ok = path.Cut(v, parts)
		count("cut", there)
		if ok != there || there && !f.equal(got) || !there && !same(got, v) || !value.Valid(got) {
			t.Errorf("Cut(%v, %q) = %v, %t", v, parts, got, ok)
		}
	}
	for _, what := range []string{"find", "put", "cut"} {
		if seen[what+" true"] < 1000 || seen[what+" false"] < 1000 {
			t.Errorf("too few of one answer: %v", seen)
		}
	}
}
