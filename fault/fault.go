// Package fault is layer 1: errors that tell where: see shared/doc/01-fault.md.
package fault

import (
	"errors"
	"strings"

	"roundelay/api"
)

// Fault is an error, and where it was met.
type Fault struct {
	Place string
	Err   error
}

// several is an error that wraps more than one.
type several interface {
	error
	Unwrap() []error
}

// Error tells where, and what. Faults in faults are told in one loop, since a text per fault would cost the square of their number.
func (f *Fault) Error() string {
	var out strings.Builder
	for {
		out.WriteString(f.Place)
		out.WriteString(": ")
		inner, ok := itself(f.Err)
		if !ok {
			out.WriteString(f.Err.Error())
			return out.String()
		}
		f = inner
	}
}

// Unwrap is what it wraps.
func (f *Fault) Unwrap() error { return f.Err }

// New is an error of a code.
func New(code api.Errno, place string) error {
	if errors.Is(code, api.OK) {
		return nil
	}
	return &Fault{Place: place, Err: code}
}

// Wrap tells of an error where it was met.
func Wrap(err error, place string) error {
	if err == nil {
		return nil
	}
	return &Fault{Place: place, Err: err}
}

// Code is an error's code.
func Code(err error) api.Errno {
	if err == nil {
		return api.OK
	}
	var code api.Errno
	if errors.As(err, &code) {
		return code
	}
	return api.ErrOther
}

// Places are where an error was met, the outermost first.
func Places(err error) []string { return gather(nil, err) }

// gather adds the places of err. Where err branches it goes into each branch, since errors.As would stay in the first one that has a fault.
func gather(places []string, err error) []string {
	var next *Fault
	for errors.As(err, &next) {
		if parts, ok := forkAhead(err, next); ok {
			for _, branch := range parts.Unwrap() {
				places = gather(places, branch)
			}
			return places
		}
		places = append(places, next.Place)
		err = next.Err
	}
	return places
}

// forkAhead is the error of several that stands between err and next, if there is one.
func forkAhead(err error, next *Fault) (several, bool) {
	for err != error(next) {
		inner := errors.Unwrap(err)
		if inner == nil {
			return fork(err)
		}
		err = inner
	}
	return nil, false
}

// fork is for an err that wraps no single one: what errors.As finds is err itself.
func fork(err error) (several, bool) {
	var found several
	if errors.As(err, &found) {
		return found, true
	}
	return nil, false
}

// itself is err, if that is a fault, and does not only wrap one.
func itself(err error) (*Fault, bool) {
	var found *Fault
	if errors.As(err, &found) && err == error(found) {
		return found, true
	}
	return nil, false
}
