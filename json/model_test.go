package json_test

import (
	"bytes"
	other "encoding/json"
	"math/big"
	"math/rand"
	"regexp"
	"slices"
	"strings"
	"testing"
	"unicode/utf8"

	"roundelay/api"
	"roundelay/fault"
	"roundelay/json"
	"roundelay/value"
)

// Here what is told of a text is held against a machine of another make: it has a stack of its own and tells parts by patterns.

var (
	quotedPart = regexp.MustCompile(`^"(?:[^"\\\x00-\x1f]|\\["\\/bfnrt]|\\u[0-9a-cA-Ce-fE-F][0-9a-fA-F]{3}|\\u[dD][0-7][0-9a-fA-F]{2}|\\u[dD][89abAB][0-9a-fA-F]{2}\\u[dD][c-fC-F][0-9a-fA-F]{2})*"`)
	numberPart = regexp.MustCompile(`^-?(0|[1-9][0-9]*)`)
	wordPart   = regexp.MustCompile(`^(null|true|false)`)
	otherZero  = regexp.MustCompile(`^-?0[0-9]`)
)

// level is a list or an object that is not ended: the names that an object has, nil of a list.
type level struct{ names map[string]int }

// What the machine waits for.
const (
	aValue = iota
	aValueOrEnd
	aName
	aNameOrEnd
	aColon
	aCommaOrEnd
)

type machine struct {
	left  string
	stack []level
	waits int
}

// code is what the machine tells of a text.
func code(s string) api.Errno {
	if len(s) > api.MaxJSON {
		return api.ErrSize
	}
	m := &machine{left: s}
	for {
		m.left = strings.TrimLeft(m.left, "\t\n\r ")
		if m.waits == aCommaOrEnd && len(m.stack) == 0 {
			if m.left == "" {
				return api.OK
			}
			return api.ErrForm
		}
		if err := m.step(); err != api.OK {
			return err
		}
	}
}

func (m *machine) skip(n int) { m.left = m.left[n:] }

func (m *machine) begins(s string) bool { return strings.HasPrefix(m.left, s) }

func (m *machine) step() api.Errno {
	inList := len(m.stack) > 0 && m.stack[len(m.stack)-1].names == nil
	end := "}"
	if inList {
		end = "]"
	}
	mayEnd := m.waits == aValueOrEnd || m.waits == aNameOrEnd || m.waits == aCommaOrEnd
	switch {
	case mayEnd && m.begins(end):
		m.skip(1)
		m.stack = m.stack[:len(m.stack)-1]
		m.waits = aCommaOrEnd
	case m.waits == aValue || m.waits == aValueOrEnd:
		return m.value()
	case m.waits == aName || m.waits == aNameOrEnd:
		return m.name()
	case m.waits == aColon && m.begins(":"):
		m.skip(1)
		m.waits = aValue
	case m.waits == aCommaOrEnd && m.begins(","):
		m.skip(1)
		m.waits = aName
		if inList {
			m.waits = aValue
		}
	default:
		return api.ErrForm
	}
	return api.OK
}

func (m *machine) value() api.Errno {
	if len(m.stack) >= api.MaxDepth {
		return api.ErrDeep
	}
	m.waits = aCommaOrEnd
	number := numberPart.FindString(m.left)
	switch {
	case m.begins("["):
		m.skip(1)
		m.stack = append(m.stack, level{})
		m.waits = aValueOrEnd
	case m.begins("{"):
		m.skip(1)
		m.stack = append(m.stack, level{map[string]int{}})
		m.waits = aNameOrEnd
	case number != "":
		return m.number(number)
	case wordPart.MatchString(m.left):
		m.skip(len(wordPart.FindString(m.left)))
	default:
		part := quoted(m.left)
		if part == "" {
			return api.ErrForm
		}
		m.skip(len(part))
	}
	return api.OK
}

func (m *machine) number(part string) api.Errno {
	if otherZero.MatchString(m.left) {
		return api.ErrForm
	}
	n, _ := new(big.Int).SetString(part, 10)
	m.skip(len(part))
	if !n.IsInt64() || m.left != "" && strings.Contains(".eE", m.left[:1]) {
		return api.ErrNumber
	}
	return api.OK
}

func (m *machine) name() api.Errno {
	part := quoted(m.left)
	if part == "" {
		return api.ErrForm
	}
	var name string
	if err := other.Unmarshal([]byte(part), &name); err != nil {
		return api.ErrOther
	}
	names := m.stack[len(m.stack)-1].names
	names[name]++
	if names[name] > 1 {
		return api.ErrName
	}
	m.skip(len(part))
	m.waits = aColon
	return api.OK
}

func quoted(s string) string {
	part := quotedPart.FindString(s)
	if !utf8.ValidString(part) {
		return ""
	}
	return part
}

// read is the value of a text, as another reader tells it.
func read(t *testing.T, s string) api.Value {
	t.Helper()
	d := other.NewDecoder(strings.NewReader(s))
	d.UseNumber()
	var x any
	if err := d.Decode(&x); err != nil {
		t.Fatalf("another reader of %q: %v", s, err)
	}
	return plain(t, x)
}

func plain(t *testing.T, x any) api.Value {
	t.Helper()
	switch x := x.(type) {
	case bool:
		if x {
			return yes
		}
		return no
	case other.Number:
		n, err := x.Int64()
		if err != nil {
			t.Fatal(err)
		}
		return num(n)
	case string:
		return txt(x)
	case []any:
		v := list()
		for _, y := range x {
			v.List = append(v.List, plain(t, y))
		}
		return v
	case map[string]any:
		v := obj()
		for name, y := range x {
			v.Fields = append(v.Fields, field(name, plain(t, y)))
		}
		slices.SortFunc(v.Fields, func(f, g api.Field) int { return strings.Compare(f.Name, g.Name) })
		return v
	}
	return null
}

// check holds Parse against the machine, and tells what that told.
func check(t *testing.T, s string) api.Errno {
	t.Helper()
	want := code(s)
	if want != api.OK {
		checkWrong(t, s, want)
	} else {
		checkRead(t, s, read(t, s))
	}
	return want
}

func TestParseIsWhatTheMachineTells(t *testing.T) {
	pieces := []string{"{", "}", "[", "]", ",", ":", `"a"`, `"b"`, `"\u0061"`, `"`, "1", "0", "-", ".", "e", " ", "null", "922337203685477580", "\x00"}
	seen := map[api.Errno]int{}
	var all func(s string, more int)
	all = func(s string, more int) {
		seen[check(t, s)]++
		for _, piece := range pieces {
			if more > 0 {
				all(s+piece, more-1)
			}
		}
	}
	all("", 4)
	for _, begin := range []string{`{"a":`, `{"a":1,`, `[{"b":[`, "[1,-", strings.Repeat("[", 15), strings.Repeat("[", 14) + `{"a":`, strings.Repeat(`{"a":`, 15), strings.Repeat("[", 14) + `{"a":1,`} {
		all(begin, 3)
	}
	for _, want := range []api.Errno{api.OK, api.ErrForm, api.ErrDeep, api.ErrNumber, api.ErrName} {
		if seen[want] < 10 {
			t.Errorf("error %d came %d times alone", want, seen[want])
		}
	}
}

var someNames = []string{"", "a", "aa", "b", "é", "\n", "\"", "\\", "\x00", "\U0001F600", "A"}

func anyValue(r *rand.Rand, deep int) api.Value {
	kinds := 6
	if deep <= 1 {
		kinds = 4
	}
	switch kind := api.Kind(r.Intn(kinds)); kind {
	case api.Bool:
		return api.Value{Kind: kind, Int: int64(r.Intn(2))}
	case api.Int:
		return num(int64(r.Uint64()) >> r.Intn(64))
	case api.Text:
		return txt(someNames[r.Intn(len(someNames))] + someNames[r.Intn(len(someNames))])
	case api.List:
		v := list()
		for range r.Intn(4) {
			v.List = append(v.List, anyValue(r, deep-1))
		}
		return v
	case api.Object:
		v := obj()
		for range r.Intn(4) {
			v = value.Set(v, someNames[r.Intn(len(someNames))], anyValue(r, deep-1))
		}
		return v
	}
	return null
}

func TestParseReadsWhatPrintWrote(t *testing.T) {
	r := rand.New(rand.NewSource(4))
	for range 20000 {
		v := anyValue(r, 5)
		s := json.Print(v)
		checkRead(t, s, v)
		if again := read(t, s); !same(again, v) {
			t.Errorf("Print(%v) = %s, which another reader reads as %v", v, s, again)
		}
		var short bytes.Buffer
		if err := other.Compact(&short, []byte(s)); err != nil || short.String() != s {
			t.Errorf("Print(%v) = %s has blanks: %v", v, s, err)
		}
	}
}

// changed is a text with a byte more, or less, or another one.
func changed(r *rand.Rand, s string) string {
	bytes := "{}[],:\"\\ \n0129-.eEux\x00\xff"
	at, b := r.Intn(len(s)), string(bytes[r.Intn(len(bytes))])
	switch r.Intn(4) {
	case 0:
		return s[:at] + s[at+1:]
	case 1:
		return s[:at] + b + s[at:]
	case 2:
		return s[:at]
	}
	return s[:at] + b + s[at+1:]
}

func TestParseOfWhatIsChangedIsWhatTheMachineTells(t *testing.T) {
	r := rand.New(rand.NewSource(5))
	seen := map[api.Errno]int{}
	for range 40000 {
		s := json.Print(anyValue(r, 4))
		outside := r.Intn(14)
		s = strings.Repeat("[", outside) + s + strings.Repeat("]", outside)
		for range 1 + r.Intn(2) {
			if s != "" {
				s = changed(r, s)
			}
		}
		seen[check(t, s)]++
	}
	for _, want := range []api.Errno{api.OK, api.ErrForm, api.ErrDeep, api.ErrNumber, api.ErrName} {
		if seen[want] < 10 {
			t.Errorf("error %d came %d times alone", want, seen[want])
		}
	}
}

func FuzzParse(f *testing.F) {
	for _, s := range []string{"", "1", `{"a":[1,{"b":null}],"c":"\u0041"}`, strings.Repeat("[", 17), "1.5", `{"a":1,"a"`, "\xff", "[1,]"} {
		f.Add(s)
	}
	f.Fuzz(func(t *testing.T, s string) {
		if got, _ := json.Parse(s); check(t, s) == api.OK {
			checkRead(t, json.Print(got), got)
		}
		if _, err := json.Parse(s); err != nil && fault.Code(err) == api.ErrOther {
			t.Error(err)
		}
	})
}
