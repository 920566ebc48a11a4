// Package fault is layer 1: errors that wrap errors: see shared/doc/01-fault.md.
package fault

import (
	"errors"
	"slices"

	"escapement/api"
)

// unknown is the number of an error that has none: neither an Errno nor a Fault is in it.
const unknown api.Errno = -1

// New: an error with a place; nil, if the code is OK.
func New(code api.Errno, at int) error {
	if code == api.OK {
		return nil
	}
	return &api.Fault{Code: code, At: max(at, -1)}
}

// Wrap: an error that another one led to; nil, if that is nil.
func Wrap(code api.Errno, at int, cause error) error {
	if nothing(cause) {
		return nil
	}
	if code == api.OK {
		return cause
	}
	return &api.Fault{Code: code, At: max(at, -1), Cause: cause}
}

// Code: the outermost number; 0 of nil; -1 of another error.
func Code(err error) api.Errno {
	l := Trail(err)
	if len(l) == 0 {
		return numberless(err)
	}
	return l[0]
}

// Place: the outermost place; -1.
func Place(err error) int {
	f := outermost(err)
	if f == nil {
		return -1
	}
	return f.At
}

// Has: is the number among the error's?
func Has(err error, code api.Errno) bool {
	if !ends(err) {
		return slices.Contains(Trail(err), code)
	}
	return safely(func() bool { return errors.Is(err, code) })
}

// Trail: all numbers, from the outermost on. It goes from Fault to Fault, and not from error to error, so that each number is found once, whatever other errors stand between. (Where the causes come to an end, no Fault comes twice, and none need be looked for.)
func Trail(err error) []api.Errno {
	var out []api.Errno
	var met []*api.Fault
	ring := !ends(err)
	for f := outermost(err); f != nil && !(ring && slices.Contains(met, f)); f = outermost(err) {
		met = append(met, f)
		out = append(out, f.Code)
		err = f.Cause
	}
	var last api.Errno
	if ends(err) && safely(func() bool { return errors.As(err, &last) }) {
		out = append(out, last)
	}
	return out
}

// Root: the innermost number; 0 of nil; -1 of another error.
func Root(err error) api.Errno {
	l := Trail(err)
	if len(l) == 0 {
		return numberless(err)
	}
	return l[len(l)-1]
}

// outermost: the first Fault that is found in an error, or nil. (Where one comes first it is found at once, whatever it is laid over.)
func outermost(err error) *api.Fault {
	var f *api.Fault
	_, first := err.(*api.Fault)
	if (first || ends(err)) && safely(func() bool { return errors.As(err, &f) }) {
		return f
	}
	return nil
}

// numberless: what is told instead of the number of an error that has none.
func numberless(err error) api.Errno {
	if nothing(err) {
		return api.OK
	}
	return unknown
}

// nothing: is there no error? A Fault that is nil is none either, though the error that holds it isn't nil.
func nothing(err error) bool {
	if err == nil {
		return true
	}
	f, ok := err.(*api.Fault)
	return ok && f == nil
}

// ends: do the causes come to an end? A Fault's fields are open to all, so it may have been laid over itself: errors.Is and errors.As would go round in it for ever. A tree of errors, which might do so too, is taken for one that doesn't end. (The second one goes half as fast: in a ring the first one comes upon it.)
func ends(err error) bool {
	return safely(func() bool {
		second := err
		for step := 1; err != nil; step++ {
			if _, tree := err.(interface{ Unwrap() []error }); tree {
				return false
			}
			err = errors.Unwrap(err)
			if step%2 == 0 {
				second = errors.Unwrap(second)
			}
			if err != nil && second != nil && err == second {
				return false
			}
		}
		return true
	})
}

// safely: what is answered to a question about an error; zero, if it panics: another error's own methods may.
func safely[T any](ask func() T) (answer T) {
	defer func() {
		if recover() != nil {
			var zero T
			answer = zero
		}
	}()
	return ask()
}
