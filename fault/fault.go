// Package fault is layer 1: errors that say where they came through: see shared/doc/01-fault.md.
package fault

import (
	"errors"
	"strings"

	"crossbuck/api"
)

// place is an error at one of the places that it came through.
type place struct {
	what   string
	number api.Errno
	behind error // another place, an error that fault did not make, or the number itself
}

// New makes an error of the number e at the place what; OK makes none.
func New(e api.Errno, what string) error {
	if e == api.OK {
		return nil
	}
	return &place{what: what, number: e, behind: e}
}

// Wrap says that err came through the place what; nil stays nil.
func Wrap(err error, what string) error {
	if err == nil {
		return nil
	}
	return &place{what: what, number: Code(err), behind: err}
}

// Code is the number of err: OK of nil, ErrOther where no number is to be found.
func Code(err error) api.Errno {
	if err == nil {
		return api.OK
	}
	if p, ok := err.(*place); ok {
		return p.number
	}
	return numberIn(err)
}

// numberIn finds the number that an error of others wraps. Their Unwrap and As may panic, which must not go further: nothing was found then.
func numberIn(err error) (number api.Errno) {
	defer func() {
		if recover() != nil {
			number = api.ErrOther
		}
	}()
	var found api.Errno
	if errors.As(err, &found) {
		return found
	}
	return api.ErrOther
}

// Is tells whether e is the number of err. It asks the number, not err: one that joins several errors has more numbers in it than its own.
func Is(err error, e api.Errno) bool {
	return errors.Is(Code(err), e)
}

// Path is the places that err came through, the outermost first.
func Path(err error) []string {
	path, _ := through(err)
	return path
}

// through goes from place to place, without recursion, as an error may be wrapped very often; it tells them, and the error behind the last one.
func through(err error) ([]string, error) {
	var path []string
	for {
		p, ok := err.(*place)
		if !ok {
			return path, err
		}
		path = append(path, p.what)
		err = p.behind
	}
}

// Error is the places, and then the text of what lies behind them.
func (p *place) Error() string {
	path, last := through(p)
	return strings.Join(append(path, textOf(last, p.number)), ": ")
}

// textOf is err's text; but that of the number, if the Error of an error of others panics.
func textOf(err error, number api.Errno) (text string) {
	defer func() {
		if recover() != nil {
			text = number.Error()
		}
	}()
	return err.Error()
}

// Unwrap lets errors.Is and errors.As go on to what lies behind.
func (p *place) Unwrap() error {
	return p.behind
}

// Is lets errors.Is find the number also where no api.Errno lies behind: ErrOther is the number of an error of others, but is not wrapped in it.
func (p *place) Is(target error) bool {
	e, ok := target.(api.Errno)
	return ok && e == p.number
}
