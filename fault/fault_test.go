package fault_test

import (
	"errors"
	"fmt"
	"math"
	"slices"
	"strings"
	"testing"

	"roundelay/api"
	"roundelay/fault"
)

// deepest is how many parts may be nested in one another.
const deepest = 1 << 16

// coat wraps an error, and is no fault.
type coat struct{ inner error }

func (c coat) Error() string { return "coat" }
func (c coat) Unwrap() error { return c.inner }

// bundle wraps several errors, and can't be compared.
type bundle []error

func (b bundle) Error() string   { return "bundle" }
func (b bundle) Unwrap() []error { return b }

// mute is an error that can't be compared, and wraps none.
type mute []int

func (m mute) Error() string { return "mute" }

func codes() []api.Errno {
	return []api.Errno{
		api.ErrForm, api.ErrDeep, api.ErrSize, api.ErrNumber, api.ErrName, api.ErrPath, api.ErrKind,
		api.ErrOp, api.ErrField, api.ErrNone, api.ErrTwice, api.ErrFull, api.ErrMode, api.ErrBusy,
		api.ErrTime, api.ErrRate, api.ErrCursor, api.ErrBuild, api.ErrOther,
		-1, 19, 98, 100, math.MaxInt64, math.MinInt64,
	}
}

func oddPlaces() []string {
	return []string{"a", "", ": ", "a: b", "\x00\xff", "ä\n", strings.Repeat("x", 5000)}
}

func wrapTimes(err error, n int) error {
	for range n {
		err = fault.Wrap(err, "p")
	}
	return err
}

// P1.1

func TestNewOfOKIsNil(t *testing.T) {
	for _, place := range oddPlaces() {
		if err := fault.New(api.OK, place); err != nil {
			t.Errorf("New(OK, %q) = %v", place, err)
		}
	}
}

func TestNewIsAFaultOfTheCode(t *testing.T) {
	for _, code := range codes() {
		for _, place := range oddPlaces() {
			f, ok := fault.New(code, place).(*fault.Fault)
			if !ok || f == nil {
				t.Fatalf("New(%d, %q) is no *Fault", code, place)
			}
			if f.Place != place || f.Err != error(code) {
				t.Errorf("New(%d, %q) = %q, %v", code, place, f.Place, f.Err)
			}
		}
	}
}

func TestWrapOfNilIsNil(t *testing.T) {
	for _, place := range oddPlaces() {
		if err := fault.Wrap(nil, place); err != nil {
			t.Errorf("Wrap(nil, %q) = %v", place, err)
		}
	}
	if err := fault.Wrap(fault.New(api.OK, "a"), "b"); err != nil {
		t.Errorf("Wrap of New(OK) = %v", err)
	}
}

func TestWrapIsAFaultOfTheError(t *testing.T) {
	plain := errors.New("plain")
	made := fault.New(api.ErrForm, "a")
	for _, err := range []error{plain, made, api.ErrPath, api.OK, coat{made}, errors.Join(plain, made)} {
		for _, place := range oddPlaces() {
			f, ok := fault.Wrap(err, place).(*fault.Fault)
			if !ok || f == nil {
				t.Fatalf("Wrap(%v, %q) is no *Fault", err, place)
			}
			if f.Place != place || f.Err != err {
				t.Errorf("Wrap(%v, %q) = %q, %v", err, place, f.Place, f.Err)
			}
		}
	}
}

func TestWrapLeavesTheErrorAsItWas(t *testing.T) {
	inner := fault.New(api.ErrForm, "a")
	one, two := fault.Wrap(inner, "b"), fault.Wrap(inner, "c")
	if inner.Error() != "a: error 1" || one.Error() != "b: a: error 1" || two.Error() != "c: a: error 1" {
		t.Error(inner, one, two)
	}
}

func TestError(t *testing.T) {
	for _, c := range []struct {
		err  error
		want string
	}{
		{fault.New(api.ErrForm, "a"), "a: error 1"},
		{fault.Wrap(fault.New(api.ErrForm, "a"), "b"), "b: a: error 1"},
		{fault.Wrap(fault.Wrap(fault.New(api.ErrOther, "a"), "b"), "c"), "c: b: a: error 99"},
		{fault.New(-7, "a"), "a: error -7"},
		{fault.New(api.ErrForm, ""), ": error 1"},
		{fault.Wrap(errors.New(""), ""), ": "},
		{fault.Wrap(errors.New("x"), "a: b"), "a: b: x"},
		{fault.Wrap(api.OK, "a"), "a: error 0"},
		{fault.Wrap(mute{1}, "a"), "a: mute"},
		{fault.Wrap(coat{fault.New(api.ErrForm, "b")}, "a"), "a: coat"},
		{fault.Wrap(bundle{fault.New(api.ErrForm, "b")}, "a"), "a: bundle"},
		{fault.Wrap(fmt.Errorf("of %w", fault.New(api.ErrForm, "b")), "a"), "a: of b: error 1"},
		{fault.Wrap(errors.Join(fault.New(api.ErrForm, "b"), api.ErrDeep), "a"), "a: b: error 1\nerror 2"},
		{&fault.Fault{Place: "a", Err: &fault.Fault{Place: "b", Err: api.ErrSize}}, "a: b: error 3"},
	} {
		if got := c.err.Error(); got != c.want {
			t.Errorf("Error() = %q, not %q", got, c.want)
		}
	}
}

func TestUnwrapIsErr(t *testing.T) {
	plain := errors.New("x")
	inner := fault.Wrap(plain, "a")
	outer := fault.Wrap(inner, "b")
	if errors.Unwrap(outer) != inner || errors.Unwrap(inner) != plain {
		t.Error("Unwrap is not what was wrapped")
	}
	if errors.Unwrap(fault.New(api.ErrDeep, "a")) != error(api.ErrDeep) {
		t.Error("Unwrap of New is not the code")
	}
	if !errors.Is(outer, plain) || errors.Is(outer, api.ErrDeep) {
		t.Error("errors.Is does not see through faults")
	}
}

// P1.2

func TestCodeOfNilIsOK(t *testing.T) {
	if code := fault.Code(nil); code != api.OK {
		t.Error(code)
	}
	if code := fault.Code(fault.New(api.OK, "a")); code != api.OK {
		t.Error(code)
	}
}

func TestCodeIsFoundAtAnyDepth(t *testing.T) {
	for _, code := range append(codes(), api.OK) {
		for _, err := range []error{
			code,
			fault.Wrap(code, "a"),
			fault.Wrap(fault.Wrap(code, "a"), "b"),
			coat{code},
			fault.Wrap(coat{fault.Wrap(coat{code}, "a")}, "b"),
			fmt.Errorf("of %w", fault.Wrap(code, "a")),
			fault.Wrap(errors.Join(errors.New("x"), fault.Wrap(code, "a")), "b"),
			bundle{mute{1}, bundle{}, coat{}, bundle{code}},
			wrapTimes(code, 1000),
		} {
			if got := fault.Code(err); got != code {
				t.Errorf("Code(%v) = %d, not %d", err, got, code)
			}
		}
	}
}

func TestCodeIsTheFirstFromTheOutside(t *testing.T) {
	form, deep := fault.New(api.ErrForm, "a"), fault.New(api.ErrDeep, "b")
	for _, c := range []struct {
		err  error
		want api.Errno
	}{
		{errors.Join(form, deep), api.ErrForm},
		{errors.Join(deep, form), api.ErrDeep},
		{errors.Join(errors.New("x"), deep, form), api.ErrDeep},
		{fault.Wrap(bundle{coat{deep}, api.ErrForm}, "c"), api.ErrDeep},
	} {
		if got := fault.Code(c.err); got != c.want {
			t.Errorf("Code(%v) = %d, not %d", c.err, got, c.want)
		}
	}
}

func TestCodeWithoutOneIsOther(t *testing.T) {
	form := api.ErrForm
	plain := errors.New("error 1")
	for _, err := range []error{
		plain,
		errors.New(""),
		fault.Wrap(plain, "a"),
		fault.Wrap(fault.Wrap(plain, "a"), "b"),
		fault.Wrap(mute{1}, "a"),
		coat{},
		bundle{},
		bundle{nil, plain},
		fmt.Errorf("of %v", api.ErrForm),
		&form,
		wrapTimes(plain, 1000),
	} {
		if got := fault.Code(err); got != api.ErrOther {
			t.Errorf("Code(%v) = %d", err, got)
		}
	}
}

func TestPlacesOfNone(t *testing.T) {
	for _, err := range []error{nil, errors.New("a: b"), api.ErrForm, coat{}, coat{api.ErrForm}, mute{1}, bundle{}, bundle{nil, api.ErrForm}} {
		if got := fault.Places(err); len(got) != 0 {
			t.Errorf("Places(%v) = %q", err, got)
		}
	}
}

func TestPlacesOutermostFirst(t *testing.T) {
	a := fault.New(api.ErrForm, "a")
	ba := fault.Wrap(a, "b")
	for _, c := range []struct {
		err  error
		want []string
	}{
		{a, []string{"a"}},
		{ba, []string{"b", "a"}},
		{fault.Wrap(ba, "c"), []string{"c", "b", "a"}},
		{fault.Wrap(errors.New("x: y"), "z"), []string{"z"}},
		{fault.Wrap(fault.Wrap(fault.Wrap(a, "a"), ""), "a"), []string{"a", "", "a", "a"}},
		{coat{ba}, []string{"b", "a"}},
		{fault.Wrap(coat{coat{fault.Wrap(coat{a}, "b")}}, "c"), []string{"c", "b", "a"}},
		{fmt.Errorf("of %w", fault.Wrap(fmt.Errorf("of %w", a), "b")), []string{"b", "a"}},
		{fault.Wrap(mute{1}, "a"), []string{"a"}},
	} {
		if got := fault.Places(c.err); !slices.Equal(got, c.want) {
			t.Errorf("Places(%v) = %q, not %q", c.err, got, c.want)
		}
	}
}

func TestPlacesOfEachBranch(t *testing.T) {
	ba := fault.Wrap(fault.New(api.ErrForm, "a"), "b")
	dc := fault.Wrap(fault.New(api.ErrDeep, "c"), "d")
	for _, c := range []struct {
		err  error
		want []string
	}{
		{errors.Join(ba, dc), []string{"b", "a", "d", "c"}},
		{errors.Join(dc, errors.New("x"), ba), []string{"d", "c", "b", "a"}},
		{fault.Wrap(errors.Join(ba, dc), "e"), []string{"e", "b", "a", "d", "c"}},
		{coat{fault.Wrap(coat{bundle{nil, mute{1}, coat{ba}, dc}}, "e")}, []string{"e", "b", "a", "d", "c"}},
		{bundle{bundle{}, bundle{fault.Wrap(bundle{ba, dc}, "e")}, dc}, []string{"e", "b", "a", "d", "c", "d", "c"}},
		{fmt.Errorf("%w and %w", ba, dc), []string{"b", "a", "d", "c"}},
	} {
		if got := fault.Places(c.err); !slices.Equal(got, c.want) {
			t.Errorf("Places(%v) = %q, not %q", c.err, got, c.want)
		}
	}
}

func TestPlacesAreNewEachTime(t *testing.T) {
	err := fault.Wrap(fault.New(api.ErrForm, "a"), "b")
	fault.Places(err)[0] = "z"
	if got := fault.Places(err); !slices.Equal(got, []string{"b", "a"}) || err.Error() != "b: a: error 1" {
		t.Error(got, err)
	}
}

func TestWrappedManyTimes(t *testing.T) {
	err := fault.New(api.ErrBuild, "first")
	want := []string{"first"}
	for i := 1; i < deepest; i++ {
		place := fmt.Sprint(i)
		err = fault.Wrap(err, place)
		want = append(want, place)
	}
	slices.Reverse(want)
	if fault.Code(err) != api.ErrBuild {
		t.Error("code")
	}
	if !slices.Equal(fault.Places(err), want) {
		t.Error("places")
	}
	if err.Error() != strings.Join(want, ": ")+": error 18" {
		t.Error("text")
	}
	if fault.Code(wrapTimes(errors.New("x"), deepest)) != api.ErrOther {
		t.Error("code of none")
	}
}

func TestExampleOfTheChapter(t *testing.T) {
	err := fault.Wrap(fault.New(api.ErrForm, "a"), "b")
	if err.Error() != "b: a: error 1" || fault.Code(err) != api.ErrForm {
		t.Error(err)
	}
}
