package fault_test

import (
	"errors"
	"fmt"
	"slices"
	"strings"
	"testing"

	"crossbuck/api"
	"crossbuck/fault"
)

// Errors that fault did not make.
var (
	plain      = errors.New("plain")
	empty      = errors.New("")
	wrapsPlain = fmt.Errorf("outer: %w", plain)
	wrapsErrno = fmt.Errorf("outer: %w", api.ErrFull)
	wrapsDeep  = fmt.Errorf("far: %w", wrapsErrno)
	joins      = errors.Join(plain, api.ErrSum, api.ErrOld)
)

// tells is an error that tells a number by its As.
type tells struct{ number api.Errno }

func (e tells) Error() string { return "tells" }

func (e tells) As(target any) bool {
	n, ok := target.(*api.Errno)
	if ok {
		*n = e.number
	}
	return ok
}

// lies is an error whose As sets a number and says that it did not.
type lies struct{}

func (lies) Error() string { return "lies" }

func (lies) As(target any) bool {
	if n, ok := target.(*api.Errno); ok {
		*n = api.ErrDead
	}
	return false
}

// Errors whose methods panic.
type (
	badUnwrap struct{}
	badAs     struct{}
	badError  struct{ text string }
)

func (badUnwrap) Error() string   { return "bad unwrap" }
func (badUnwrap) Unwrap() error   { panic("unwrap") }
func (badAs) Error() string       { return "bad as" }
func (badAs) As(any) bool         { panic(plain) }
func (e *badError) Error() string { return e.text }

// number is a kind of its own beneath which is a number: it is no api.Errno.
type number api.Errno

func (number) Error() string { return "number" }

// listed is an error whose value can't be held against another one.
type listed []string

func (l listed) Error() string { return strings.Join(l, " ") }

type one struct {
	name string
	err  error
	code api.Errno
	path []string
	text string // of an error that New or Wrap made
}

func wrapped() []one {
	frame := fault.New(api.ErrSum, "frame")
	foreign := fmt.Errorf("outer: %w", frame)
	return []one{
		{"New", frame, 3, []string{"frame"}, "frame: error 3"},
		{"New, empty place", fault.New(api.ErrArg, ""), 1, []string{""}, ": error 1"},
		{"New, a number of no name", fault.New(-7, "a"), -7, []string{"a"}, "a: error -7"},
		{"New, the least number", fault.New(api.MinInt, "a"), api.MinInt, []string{"a"}, "a: error -9223372036854775808"},
		{"New, the greatest number", fault.New(api.MaxInt, "a"), api.MaxInt, []string{"a"}, "a: error 9223372036854775807"},
		{"New, ErrOther", fault.New(api.ErrOther, "a"), 99, []string{"a"}, "a: error 99"},
		{"New, a place with colons", fault.New(api.ErrOld, "a: b:\n"), 4, []string{"a: b:\n"}, "a: b:\n: error 4"},
		{"New, a place that is no text", fault.New(api.ErrOld, "\xff\x00"), 4, []string{"\xff\x00"}, "\xff\x00: error 4"},
		{"Wrap of New", fault.Wrap(frame, "link"), 3, []string{"link", "frame"}, "link: frame: error 3"},
		{"Wrap of Wrap", fault.Wrap(fault.Wrap(frame, "link"), "inputs"), 3, []string{"inputs", "link", "frame"}, "inputs: link: frame: error 3"},
		{"Wrap, empty places", fault.Wrap(fault.Wrap(fault.New(api.ErrDead, ""), ""), ""), 7, []string{"", "", ""}, ": : : error 7"},
		{"Wrap, the same place twice", fault.Wrap(frame, "frame"), 3, []string{"frame", "frame"}, "frame: frame: error 3"},
		{"Wrap of a number", fault.Wrap(api.ErrRange, "a"), 6, []string{"a"}, "a: error 6"},
		{"Wrap of OK, which is not nil", fault.Wrap(api.OK, "a"), 0, []string{"a"}, "a: error 0"},
		{"Wrap of plain", fault.Wrap(plain, "a"), 99, []string{"a"}, "a: plain"},
		{"Wrap of Wrap of plain", fault.Wrap(fault.Wrap(plain, "a"), "b"), 99, []string{"b", "a"}, "b: a: plain"},
		{"Wrap of an empty text", fault.Wrap(empty, ""), 99, []string{""}, ": "},
		{"Wrap of one that wraps plain", fault.Wrap(wrapsPlain, "a"), 99, []string{"a"}, "a: outer: plain"},
		{"Wrap of one that wraps a number", fault.Wrap(wrapsErrno, "a"), 5, []string{"a"}, "a: outer: error 5"},
		{"Wrap of one that wraps New", fault.Wrap(foreign, "a"), 3, []string{"a"}, "a: outer: frame: error 3"},
		{"Wrap of one that joins", fault.Wrap(joins, "a"), 3, []string{"a"}, "a: plain\nerror 3\nerror 4"},
		{"Wrap of one that tells by As", fault.Wrap(tells{api.ErrForm}, "a"), 2, []string{"a"}, "a: tells"},
		{"Wrap of one that can't be compared", fault.Wrap(listed{"x", "y"}, "a"), 99, []string{"a"}, "a: x y"},
	}
}

func others() []one {
	var none *badError
	var noNumber *api.Errno
	e := api.ErrSum
	return []one{
		{name: "nil", err: nil, code: 0},
		{name: "OK, which is not nil", err: api.OK, code: 0},
		{name: "a number", err: api.ErrOld, code: 4},
		{name: "a number of no name", err: api.Errno(-1), code: -1},
		{name: "plain", err: plain, code: 99},
		{name: "an empty text", err: empty, code: 99},
		{name: "one that wraps plain", err: wrapsPlain, code: 99},
		{name: "one that wraps a number", err: wrapsErrno, code: 5},
		{name: "one that wraps a number far down", err: wrapsDeep, code: 5},
		{name: "one that joins", err: joins, code: 3},
		{name: "one that joins plain errors", err: errors.Join(plain, empty), code: 99},
		{name: "one that wraps New", err: fmt.Errorf("x: %w", fault.New(api.ErrDead, "store")), code: 7},
		{name: "one that wraps Wrap of plain", err: fmt.Errorf("x: %w", fault.Wrap(plain, "store")), code: 99},
		{name: "one that tells New's text only", err: fmt.Errorf("x: %v", fault.New(api.ErrDead, "store")), code: 99},
		{name: "one that looks like New", err: errors.New("store: error 7"), code: 99},
		{name: "one that tells by As", err: tells{api.ErrForm}, code: 2},
		{name: "one whose As lies", err: lies{}, code: 99},
		{name: "a pointer to a number", err: &e, code: 99},
		{name: "a kind beneath which is a number", err: number(3), code: 99},
		{name: "one that can't be compared", err: listed{"x"}, code: 99},
		{name: "a nil pointer", err: none, code: 99},
		{name: "a nil pointer to a number", err: noNumber, code: 99},
		{name: "one whose Unwrap panics", err: badUnwrap{}, code: 99},
		{name: "one whose As panics", err: badAs{}, code: 99},
		{name: "one that wraps one that panics", err: fmt.Errorf("x: %w", badUnwrap{}), code: 99},
	}
}

// numbers are those that each error is held against.
func numbers() []api.Errno {
	return []api.Errno{api.MinInt, -7, -1, 0, 1, 2, 3, 4, 5, 6, 7, 8, 98, 99, 100, api.MaxInt}
}

// P1.1: OK and nil make no error.
func TestNoError(t *testing.T) {
	for _, what := range []string{"", "x", "a: b"} {
		if err := fault.New(api.OK, what); err != nil {
			t.Errorf("New(OK, %q): %v", what, err)
		}
		if err := fault.Wrap(nil, what); err != nil {
			t.Errorf("Wrap(nil, %q): %v", what, err)
		}
		if err := fault.Wrap(fault.New(api.OK, what), what); err != nil {
			t.Errorf("Wrap(New(OK), %q): %v", what, err)
		}
	}
}

// P1.1: whatever is not nil is wrapped: it has err's number, and its place ahead of err's path.
func TestWrapIsAhead(t *testing.T) {
	for _, x := range append(wrapped(), others()...) {
		if x.err == nil {
			continue
		}
		w := fault.Wrap(x.err, "ahead")
		if w == nil {
			t.Errorf("%s: Wrap is nil", x.name)
			continue
		}
		if got := fault.Code(w); got != x.code {
			t.Errorf("%s: Wrap's number %d, not %d", x.name, got, x.code)
		}
		want := append([]string{"ahead"}, x.path...)
		if got := fault.Path(w); !slices.Equal(got, want) {
			t.Errorf("%s: Wrap's path %q, not %q", x.name, got, want)
		}
	}
}

// P1.1, P1.2: the number and the path of each error, and whether a number is its.
func TestCodeIsPath(t *testing.T) {
	for _, x := range append(wrapped(), others()...) {
		if got := fault.Code(x.err); got != x.code {
			t.Errorf("%s: Code %d, not %d", x.name, got, x.code)
		}
		if got := fault.Path(x.err); !slices.Equal(got, x.path) {
			t.Errorf("%s: Path %q, not %q", x.name, got, x.path)
		}
		for _, e := range numbers() {
			if got, want := fault.Is(x.err, e), e == x.code; got != want {
				t.Errorf("%s: Is %d: %v", x.name, e, got)
			}
		}
	}
}

// P1.3: the text of an error that New or Wrap made.
func TestText(t *testing.T) {
	for _, x := range wrapped() {
		if got := x.err.Error(); got != x.text {
			t.Errorf("%s: %q, not %q", x.name, got, x.text)
		}
	}
}

// P1.3: an error without a text is told by its number, and telling it does not panic.
func TestTextOfNoText(t *testing.T) {
	var none *badError
	w := fault.Wrap(fault.Wrap(none, "a"), "b")
	if got := w.Error(); got != "b: a: error 99" {
		t.Errorf("%q", got)
	}
}

// P1.4: who changes a path, or its spare room, changes nothing else.
func TestPathIsNew(t *testing.T) {
	inner := fault.Wrap(fault.New(api.ErrSum, "frame"), "link")
	outer := fault.Wrap(inner, "inputs")
	want := []string{"inputs", "link", "frame"}
	first, second := fault.Path(outer), fault.Path(outer)
	for i := range first {
		first[i] = "spoilt"
	}
	first = append(first, "spoilt")
	clear(first[:cap(first)])
	if !slices.Equal(second, want) {
		t.Errorf("another path changed: %q", second)
	}
	if got := fault.Path(outer); !slices.Equal(got, want) {
		t.Errorf("the error's path changed: %q", got)
	}
	if got := fault.Path(inner); !slices.Equal(got, want[1:]) {
		t.Errorf("the inner error's path changed: %q", got)
	}
	if got := outer.Error(); got != "inputs: link: frame: error 3" {
		t.Errorf("the text changed: %q", got)
	}
}

// P1.4: each error is one of its own, also of the same arguments; and one error that goes two ways is not mixed up.
func TestErrorIsNew(t *testing.T) {
	a, b := fault.New(api.ErrSum, "frame"), fault.New(api.ErrSum, "frame")
	if a == b || errors.Is(a, b) {
		t.Error("two of New are one")
	}
	if x, y := fault.Wrap(a, "w"), fault.Wrap(a, "w"); x == y {
		t.Error("two of Wrap are one")
	}
	left, right := fault.Wrap(a, "left"), fault.Wrap(a, "right")
	if l, r := left.Error(), right.Error(); l != "left: frame: error 3" || r != "right: frame: error 3" {
		t.Error(l, r)
	}
	if got := a.Error(); got != "frame: error 3" {
		t.Error("wrapping changed the inner error:", got)
	}
}

// P1.5: the number stays, and all are found, however often an error is wrapped.
func TestWrappedOften(t *testing.T) {
	const often = 100000
	for _, x := range []struct {
		err  error
		code api.Errno
		path []string
		text string
	}{
		{fault.New(api.ErrOld, "link"), 4, []string{"link"}, "link: error 4"},
		{api.ErrDead, 7, nil, "error 7"},
		{plain, 99, nil, "plain"},
		{wrapsErrno, 5, nil, "outer: error 5"},
	} {
		w := x.err
		for range often {
			w = fault.Wrap(w, "w")
		}
		if got := fault.Code(w); got != x.code || !fault.Is(w, x.code) || fault.Is(w, api.OK) {
			t.Errorf("%v: number %d", x.err, got)
		}
		want := append(slices.Repeat([]string{"w"}, often), x.path...)
		if got := fault.Path(w); !slices.Equal(got, want) {
			t.Errorf("%v: a path of %d places", x.err, len(got))
		}
		if got := w.Error(); got != strings.Repeat("w: ", often)+x.text {
			t.Errorf("%v: a text of %d bytes", x.err, len(got))
		}
		if !errors.Is(w, x.code) || !errors.Is(w, x.err) {
			t.Errorf("%v: errors.Is does not find it", x.err)
		}
	}
}

// P1.5: errors.Is finds the number of each error that New or Wrap made, and no other one.
func TestErrorsIsNumber(t *testing.T) {
	for _, x := range wrapped() {
		if !errors.Is(x.err, x.code) {
			t.Errorf("%s: errors.Is does not find %d", x.name, x.code)
		}
		if errors.Is(x.err, api.Errno(12345)) || errors.Is(x.err, number(x.code)) {
			t.Errorf("%s: errors.Is finds what is not there", x.name)
		}
	}
	if errors.Is(fault.Wrap(api.ErrSum, "a"), api.ErrOther) {
		t.Error("ErrOther is found in an error that has a number")
	}
}

// P1.5: errors.Is and errors.As find in what Wrap made of another error that error, and what it wraps.
func TestErrorsIsOther(t *testing.T) {
	twice := fault.Wrap(fault.Wrap(wrapsPlain, "a"), "b")
	if !errors.Is(twice, wrapsPlain) || !errors.Is(twice, plain) || errors.Is(twice, empty) {
		t.Error("errors.Is of plain errors")
	}
	inner := fault.New(api.ErrSum, "frame")
	if outer := fault.Wrap(inner, "link"); !errors.Is(outer, inner) || errors.Is(inner, outer) {
		t.Error("errors.Is of an error of fault")
	}
	var bad *badError
	own := &badError{"own"}
	if !errors.As(fault.Wrap(own, "a"), &bad) || bad != own {
		t.Error("errors.As does not find the other error")
	}
	var e api.Errno
	if !errors.As(fmt.Errorf("x: %w", fault.Wrap(inner, "link")), &e) || e != api.ErrSum {
		t.Error("errors.As does not find the number")
	}
}
