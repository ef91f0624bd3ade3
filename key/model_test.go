package key_test

import (
	"math/rand"
	"slices"
	"strings"
	"testing"
	"unicode/utf8"

	"roundelay/api"
	"roundelay/key"
	"roundelay/value"
)

// Here what Get tells of all short texts is held against all keys that short, which are put together from the smallest ones on.

// alphabet has the bytes that mean something in a key, and two that do not.
const alphabet = "\x00\x01\x02\x03\x04\x05\x06\x07\xff"

const longest = 6

// short are all texts of the alphabet's bytes of up to so many.
func short(most int) []string {
	out := []string{""}
	for from := 0; most > 0; most-- {
		to := len(out)
		for _, s := range out[from:to] {
			for i := range len(alphabet) {
				out = append(out, s+alphabet[i:i+1])
			}
		}
		from = to
	}
	return out
}

// names are all texts of UTF-8, WRITTEN, of up to so many bytes, and what they are.
func names(most int) map[string]string {
	out := map[string]string{}
	for _, s := range short(most - 2) {
		written := strings.ReplaceAll(s, "\x00", "\x00\xff") + "\x00\x01"
		if utf8.ValidString(s) && len(written) <= most {
			out[written] = s
		}
	}
	return out
}

// lists are the values of a list, and their keys side by side, of up to so many bytes.
func lists(most int) map[string][]api.Value {
	out := map[string][]api.Value{"": nil}
	for k, v := range keys(most) {
		for rest, l := range lists(most - len(k)) {
			out[k+rest] = append([]api.Value{v}, l...)
		}
	}
	return out
}

// objects are the fields of an object, all above a name if there is one, and what they are written as, of up to so many bytes.
func objects(most int, above *string) map[string][]api.Field {
	out := map[string][]api.Field{"": nil}
	if most < 4 {
		return out
	}
	for written, name := range names(most - 2) {
		if above != nil && name <= *above {
			continue
		}
		for k, v := range keys(most - 1 - len(written)) {
			head := "\x01" + written + k
			for rest, l := range objects(most-len(head), &name) {
				out[head+rest] = append([]api.Field{field(name, v)}, l...)
			}
		}
	}
	return out
}

// keys are all keys of up to so many bytes, fewer than an Int has, and their values.
func keys(most int) map[string]api.Value {
	out := map[string]api.Value{}
	if most >= 1 {
		out["\x01"] = null
	}
	if most >= 2 {
		out["\x02\x00"], out["\x02\x01"] = no, yes
		for k, l := range lists(most - 2) {
			out["\x05"+k+"\x00"] = list(l...)
		}
		for k, l := range objects(most-2, nil) {
			out["\x06"+k+"\x00"] = obj(l...)
		}
	}
	if most >= 3 {
		for k, s := range names(most - 1) {
			out["\x04"+k] = txt(s)
		}
	}
	return out
}

func TestAllShortTexts(t *testing.T) {
	all, found := keys(longest), 0
	for _, s := range short(longest) {
		want, there := all[s]
		if !there {
			checkNone(t, s)
			continue
		}
		found++
		checkGet(t, s, want)
		if got := key.Put(want); got != s {
			t.Errorf("Put(%v) = %q, want %q", want, got, s)
		}
	}
	if found != len(all) || found < 100 {
		t.Errorf("%d of %d keys were looked at", found, len(all))
	}
}

// Beyond those: values and texts by chance.

func anyText(r *rand.Rand) string {
	parts := []string{"", "\x00", "\x00", "\x01", "a", "b", "é", "\U0010ffff"}
	out := ""
	for range r.Intn(4) {
		out += parts[r.Intn(len(parts))]
	}
	return out
}

// anyInt is one of any number of bits, so that small ones come as often as great ones.
func anyInt(r *rand.Rand) int64 { return int64(r.Uint64()) >> r.Intn(64) }

func anyValue(r *rand.Rand, deep int) api.Value {
	kinds := 6
	if deep == 0 {
		kinds = 4
	}
	switch api.Kind(r.Intn(kinds)) {
	case api.Bool:
		return api.Value{Kind: api.Bool, Int: int64(r.Intn(2))}
	case api.Int:
		return num(anyInt(r))
	case api.Text:
		return txt(anyText(r))
	case api.List:
		v := list()
		for range r.Intn(4) {
			v.List = append(v.List, anyValue(r, deep-1))
		}
		return v
	case api.Object:
		v := obj()
		for range r.Intn(4) {
			v = value.Set(v, anyText(r), anyValue(r, deep-1))
		}
		return v
	}
	return null
}

func TestOrderOfAnyValues(t *testing.T) {
	r := rand.New(rand.NewSource(5))
	for range 20000 {
		a, b := anyValue(r, 3), anyValue(r, 3)
		checkOrder(t, a, b)
		checkOrder(t, b, a)
		checkOrder(t, list(a, b), list(a))
		checkGet(t, key.Put(a), a)
	}
}

func TestSortedKeysAreSortedValues(t *testing.T) {
	r := rand.New(rand.NewSource(6))
	var l []api.Value
	for range 3000 {
		l = append(l, anyValue(r, 2))
	}
	slices.SortFunc(l, func(a, b api.Value) int { return strings.Compare(key.Put(a), key.Put(b)) })
	if !slices.IsSortedFunc(l, value.Cmp) {
		t.Error("keys do not stand in the order of their values")
	}
}

// checkAny tells that what Get finds is the Valid value whose Put s is.
func checkAny(t *testing.T, s string) bool {
	t.Helper()
	v, ok := key.Get(s)
	if !ok {
		if !same(v, null) {
			t.Errorf("Get(%q) = %v beside a false", s, v)
		}
		return false
	}
	if !value.Valid(v) || value.Depth(v) > api.MaxDepth || key.Put(v) != s {
		t.Errorf("Get(%q) = %v", s, v)
	}
	return true
}

// spoilt is a text with some bytes changed, put in or dropped.
func spoilt(r *rand.Rand, s string) string {
	b := []byte(s)
	for range 1 + r.Intn(3) {
		at, c := r.Intn(len(b)+1), alphabet[r.Intn(len(alphabet))]
		switch {
		case at == len(b) || r.Intn(3) == 0:
			b = slices.Insert(b, at, c)
		case r.Intn(2) == 0:
			b = slices.Delete(b, at, at+1)
		default:
			b[at] = c
		}
	}
	return string(b)
}

func TestGetOfSpoiltKeys(t *testing.T) {
	r := rand.New(rand.NewSource(7))
	found := 0
	for range 100000 {
		if checkAny(t, spoilt(r, key.Put(anyValue(r, 3)))) {
			found++
		}
	}
	if found < 1000 || found > 99000 {
		t.Errorf("of all spoilt keys %d were keys", found)
	}
}

func FuzzGet(f *testing.F) {
	for _, c := range pairs() {
		f.Add(c.key)
	}
	f.Fuzz(func(t *testing.T, s string) { checkAny(t, s) })
}
