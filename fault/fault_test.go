package fault_test

import (
	"errors"
	"fmt"
	"slices"
	"testing"
	"time"

	"escapement/api"
	"escapement/fault"
)

// all is each number that package api gives, OK ahead.
var all = []api.Errno{
	api.OK, api.ErrNil, api.ErrRange, api.ErrMany, api.ErrShort, api.ErrExtra, api.ErrCheck, api.ErrKind, api.ErrValue,
	api.ErrEmpty, api.ErrFull, api.ErrSize, api.ErrMode, api.ErrBusy, api.ErrState, api.ErrPower, api.ErrNone,
	api.ErrFrame, api.ErrRecord, api.ErrTable,
	api.ErrNodes, api.ErrWindow, api.ErrRoute, api.ErrSlot, api.ErrMargin, api.ErrGap,
	api.ErrMemory, api.ErrBudget, api.ErrRaised,
}

// tell is what is asked of one error, and what is to be answered.
type tell struct {
	name  string
	err   error
	trail []api.Errno
	place int
}

// tells are errors of each kind that the chapter names, and what is no error there but may be handed in.
func tells() []tell {
	return []tell{
		{"nil", nil, nil, -1},
		{"an Errno", api.ErrSize, []api.Errno{api.ErrSize}, -1},
		{"an Errno without a name", api.Errno(999), []api.Errno{999}, -1},
		{"a Fault", fault.New(api.ErrSize, 3), []api.Errno{api.ErrSize}, 3},
		{"a Fault at 0", fault.New(api.ErrSize, 0), []api.Errno{api.ErrSize}, 0},
		{"a Fault without a place", fault.New(api.ErrSize, -1), []api.Errno{api.ErrSize}, -1},
		{"a Fault over an Errno", fault.Wrap(api.ErrFrame, 9, api.ErrSize), []api.Errno{api.ErrFrame, api.ErrSize}, 9},
		{"a Fault over a Fault", fault.Wrap(api.ErrFrame, 9, fault.New(api.ErrSize, 3)), []api.Errno{api.ErrFrame, api.ErrSize}, 9},
		{"a Fault without a place over one with", fault.Wrap(api.ErrFrame, -5, fault.New(api.ErrSize, 3)), []api.Errno{api.ErrFrame, api.ErrSize}, -1},
		{"three", fault.Wrap(api.ErrTable, 1, fault.Wrap(api.ErrFrame, 2, fault.New(api.ErrSize, 3))), []api.Errno{api.ErrTable, api.ErrFrame, api.ErrSize}, 1},
		{"one number twice", fault.Wrap(api.ErrSize, 1, fault.Wrap(api.ErrFrame, 2, api.ErrSize)), []api.Errno{api.ErrSize, api.ErrFrame, api.ErrSize}, 1},
		{"a Fault made by hand", &api.Fault{Code: api.ErrGap, At: 4, Cause: api.ErrNil}, []api.Errno{api.ErrGap, api.ErrNil}, 4},
	}
}

func TestNew(t *testing.T) {
	for _, code := range all {
		for _, at := range []int{-1 << 63, -7, -1, 0, 1, 9, 1<<63 - 1} {
			err := fault.New(code, at)
			if code == api.OK {
				if err != nil {
					t.Errorf("P1.1: New(OK, %d) = %v", at, err)
				}
				continue
			}
			f, ok := err.(*api.Fault)
			if !ok || f.Code != code || f.At != max(at, -1) || f.Cause != nil {
				t.Errorf("P1.1: New(%d, %d) = %#v", code, at, err)
			}
		}
	}
	if f, g := fault.New(api.ErrSize, 1).(*api.Fault), fault.New(api.ErrSize, 1).(*api.Fault); f == g {
		t.Error("R6: two answers of New are one Fault")
	}
}

func TestWrap(t *testing.T) {
	for _, cause := range []error{api.ErrSize, fault.New(api.ErrSize, 3), fault.Wrap(api.ErrFrame, 2, api.ErrFull), errors.New("another")} {
		for _, code := range all {
			for _, at := range []int{-1 << 63, -7, -1, 0, 9, 1<<63 - 1} {
				err := fault.Wrap(code, at, cause)
				if code == api.OK {
					if err != cause {
						t.Errorf("P1.1: Wrap(OK, %d, %v) = %v", at, cause, err)
					}
					continue
				}
				f, ok := err.(*api.Fault)
				if !ok || f.Code != code || f.At != max(at, -1) || f.Cause != cause {
					t.Errorf("P1.1: Wrap(%d, %d, %v) = %#v", code, at, cause, err)
				}
			}
		}
	}
}

func TestWrapNil(t *testing.T) {
	for _, code := range all {
		for _, at := range []int{-7, -1, 0, 9} {
			if err := fault.Wrap(code, at, nil); err != nil {
				t.Errorf("P1.1: Wrap(%d, %d, nil) = %v", code, at, err)
			}
			if err := fault.Wrap(code, at, (*api.Fault)(nil)); err != nil {
				t.Errorf("R7: Wrap(%d, %d, a nil Fault) = %v", code, at, err)
			}
		}
	}
}

func TestExamples(t *testing.T) {
	inner := fault.New(api.ErrSize, 3)
	outer := fault.Wrap(api.ErrFrame, 9, inner)
	if l := fault.Trail(outer); !slices.Equal(l, []api.Errno{api.ErrFrame, api.ErrSize}) {
		t.Error("P1.2: Trail", l)
	}
	if fault.Code(outer) != api.ErrFrame || fault.Root(outer) != api.ErrSize || fault.Place(outer) != 9 {
		t.Error("P1.2: Code, Root, Place", fault.Code(outer), fault.Root(outer), fault.Place(outer))
	}
	if err := fault.Wrap(api.OK, 9, api.ErrSize); err != api.ErrSize || fault.Place(err) != -1 {
		t.Error("P1.1: Wrap of OK", err)
	}
	if fault.Place(fault.New(api.ErrSize, -7)) != -1 {
		t.Error("P1.1: a place below 0")
	}
}

func TestNumbers(t *testing.T) {
	for _, c := range tells() {
		if l := fault.Trail(c.err); !slices.Equal(l, c.trail) {
			t.Errorf("P1.2: %s: Trail %v, not %v", c.name, l, c.trail)
		}
		code, root := api.OK, api.OK
		if n := len(c.trail); n > 0 {
			code, root = c.trail[0], c.trail[n-1]
		}
		if n := fault.Code(c.err); n != code {
			t.Errorf("P1.2: %s: Code %d, not %d", c.name, n, code)
		}
		if n := fault.Root(c.err); n != root {
			t.Errorf("P1.2: %s: Root %d, not %d", c.name, n, root)
		}
		if n := fault.Place(c.err); n != c.place {
			t.Errorf("P1.2: %s: Place %d, not %d", c.name, n, c.place)
		}
	}
}

func TestHas(t *testing.T) {
	for _, c := range tells() {
		for code := api.Errno(-2); code < 1001; code++ {
			has := fault.Has(c.err, code)
			if has != slices.Contains(c.trail, code) {
				t.Errorf("P1.2: %s: Has %d: %v", c.name, code, has)
			}
			if has != errors.Is(c.err, code) {
				t.Errorf("P1.3: %s: Has %d: %v, but not errors.Is", c.name, code, has)
			}
		}
	}
}

func TestAs(t *testing.T) {
	for _, c := range tells() {
		want, isFault := c.err.(*api.Fault)
		var got *api.Fault
		if errors.As(c.err, &got) != isFault || got != want {
			t.Errorf("P1.3: %s: errors.As finds %v, not %v", c.name, got, want)
		}
	}
	inner := fault.New(api.ErrSize, 3)
	var got *api.Fault
	if !errors.As(fault.Wrap(api.OK, 9, inner), &got) || got != inner {
		t.Error("P1.3: Wrap of OK: errors.As finds", got)
	}
}

func TestNilFault(t *testing.T) {
	var f *api.Fault
	if fault.Trail(f) != nil || fault.Code(f) != api.OK || fault.Root(f) != api.OK || fault.Place(f) != -1 || fault.Has(f, api.OK) || fault.Has(f, api.ErrNil) {
		t.Error("R7: a nil Fault:", fault.Trail(f), fault.Code(f), fault.Root(f), fault.Place(f))
	}
	over := &api.Fault{Code: api.ErrFrame, At: 9, Cause: f}
	if !slices.Equal(fault.Trail(over), []api.Errno{api.ErrFrame}) || fault.Root(over) != api.ErrFrame || fault.Has(over, api.OK) {
		t.Error("R7: a Fault over a nil Fault:", fault.Trail(over), fault.Root(over))
	}
}

// TestKept: what is handed in is neither changed, nor shared by what is answered.
func TestKept(t *testing.T) {
	inner := &api.Fault{Code: api.ErrSize, At: -7}
	outer := fault.Wrap(api.ErrFrame, 9, inner)
	a, b := fault.Trail(outer), fault.Trail(outer)
	a[0], a[1] = 0, 0
	if !slices.Equal(b, []api.Errno{api.ErrFrame, api.ErrSize}) || !slices.Equal(fault.Trail(outer), b) {
		t.Error("R6: Trails share memory:", b, fault.Trail(outer))
	}
	if *inner != (api.Fault{Code: api.ErrSize, At: -7}) {
		t.Error("R6: the cause was changed:", *inner)
	}
}

// TestLong: numbers of an error of very many causes are told as those of a short one, and in a time that grows as it does.
func TestLong(t *testing.T) {
	const n = 300000
	var err error = api.ErrSize
	for i := range n {
		err = fault.Wrap(all[1+i%(len(all)-1)], i, err)
	}
	l := fault.Trail(err)
	if len(l) != n+1 || l[n] != api.ErrSize || l[0] != all[1+(n-1)%(len(all)-1)] || fault.Root(err) != api.ErrSize || fault.Place(err) != n-1 {
		t.Error("P1.2: a long Trail:", len(l), fault.Root(err), fault.Place(err))
	}
	if !fault.Has(err, api.ErrSize) || fault.Has(err, 999) {
		t.Error("P1.2: Has of a long error")
	}
}

// wrapper is another error that stands over one.
type wrapper struct{ cause error }

func (w *wrapper) Error() string { return "wrapper" }
func (w *wrapper) Unwrap() error { return w.cause }

// same is an error that stands over itself, and may not be compared.
type same []int

func (s same) Error() string { return "same" }
func (s same) Unwrap() error { return s }

// tree is an error that stands over itself, as one of several.
type tree struct{}

func (tree) Error() string   { return "tree" }
func (tree) Unwrap() []error { return []error{api.ErrSize, tree{}} }

// rude panics when it is asked what it wraps.
type rude struct{}

func (rude) Error() string { panic("rude") }
func (rude) Unwrap() error { panic("rude") }

// ruder panics when it is asked what it is.
type ruder struct{}

func (ruder) Error() string   { panic("ruder") }
func (ruder) Is(error) bool   { panic("ruder") }
func (ruder) As(any) bool     { panic("ruder") }
func (ruder) Unwrap() []error { panic("ruder") }

// rudest panics so, and wraps nothing.
type rudest struct{}

func (rudest) Error() string { panic("rudest") }
func (rudest) Is(error) bool { panic("rudest") }
func (rudest) As(any) bool   { panic("rudest") }

// others are errors of which the chapter says nothing: there each call ends, and none panics.
func others() []tell {
	self := &api.Fault{Code: api.ErrFrame, At: 1}
	self.Cause = self
	two := &api.Fault{Code: api.ErrTable, At: 3}
	two.Cause = &api.Fault{Code: api.ErrSize, At: 4, Cause: two}
	late := fault.Wrap(api.ErrGap, 5, fault.Wrap(api.ErrFull, 6, two))
	loop := &wrapper{}
	loop.cause = &wrapper{loop}
	return []tell{
		{"a Fault over itself", self, []api.Errno{api.ErrFrame}, 1},
		{"two Faults over each other", two, []api.Errno{api.ErrTable, api.ErrSize}, 3},
		{"a Fault over those", late, []api.Errno{api.ErrGap, api.ErrFull, api.ErrTable, api.ErrSize}, 5},
		{"an error of the library", errors.New("another"), nil, -1},
		{"a Fault over it", fault.Wrap(api.ErrFrame, 9, errors.New("another")), []api.Errno{api.ErrFrame}, 9},
		{"an error over a Fault", fmt.Errorf("over: %w", fault.Wrap(api.ErrFrame, 9, api.ErrSize)), []api.Errno{api.ErrFrame, api.ErrSize}, 9},
		{"an error over an Errno", &wrapper{api.ErrSize}, []api.Errno{api.ErrSize}, -1},
		{"a Fault over one over a Fault", fault.Wrap(api.ErrTable, 2, &wrapper{fault.New(api.ErrSize, 3)}), []api.Errno{api.ErrTable, api.ErrSize}, 2},
		{"errors over each other", loop, nil, -1},
		{"a Fault over them", fault.Wrap(api.ErrFrame, 9, loop), []api.Errno{api.ErrFrame}, 9},
		{"an error that can't be compared", same{1}, nil, -1},
		{"a tree", tree{}, nil, -1},
		{"a Fault over it", fault.Wrap(api.ErrFrame, 9, tree{}), []api.Errno{api.ErrFrame}, 9},
		{"an error that panics", rude{}, nil, -1},
		{"a Fault over it", fault.Wrap(api.ErrFrame, 9, rude{}), []api.Errno{api.ErrFrame}, 9},
		{"another one", ruder{}, nil, -1},
		{"a third one", rudest{}, nil, -1},
		{"a Fault over it", fault.Wrap(api.ErrFrame, 9, rudest{}), []api.Errno{api.ErrFrame}, 9},
		{"a nil Errno", (*api.Errno)(nil), nil, -1},
	}
}

// checkOther holds what is told of one of the others against what is written of it.
func checkOther(t *testing.T, c tell) {
	if l := fault.Trail(c.err); !slices.Equal(l, c.trail) {
		t.Errorf("P1: %s: Trail %v, not %v", c.name, l, c.trail)
	}
	code, root := api.Errno(-1), api.Errno(-1)
	if n := len(c.trail); n > 0 {
		code, root = c.trail[0], c.trail[n-1]
	}
	if fault.Code(c.err) != code || fault.Root(c.err) != root || fault.Place(c.err) != c.place {
		t.Errorf("P1: %s: Code %d, Root %d, Place %d", c.name, fault.Code(c.err), fault.Root(c.err), fault.Place(c.err))
	}
	if fault.Has(c.err, 999) || len(c.trail) > 0 && !fault.Has(c.err, code) {
		t.Errorf("P1: %s: Has", c.name)
	}
	if err := fault.Wrap(api.ErrGap, 7, c.err); fault.Code(err) != api.ErrGap || fault.Place(err) != 7 {
		t.Errorf("P1: %s: Wrap: %d at %d", c.name, fault.Code(err), fault.Place(err))
	}
}

func TestOthers(t *testing.T) {
	for _, c := range others() {
		done := make(chan bool)
		go func() {
			defer close(done)
			defer func() {
				if r := recover(); r != nil {
					t.Errorf("P1: %s: a panic: %v", c.name, r)
				}
			}()
			checkOther(t, c)
		}()
		select {
		case <-done:
		case <-time.After(20 * time.Second):
			t.Fatalf("P1: %s: no end", c.name)
		}
	}
}
