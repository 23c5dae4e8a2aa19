// Package fault is layer 1: errors, and where they are: see shared/doc/01-fault.md.
package fault

import (
	"errors"
	"strconv"

	"averment/api"
)

// placed wraps an error with one place. It is used by pointer alone, so that
// holding two against each other never looks into an error that can't be compared.
type placed struct {
	place int
	err   error
}

// Error tells the same as Text.
func (p *placed) Error() string { return Text(p) }

// Unwrap lets errors.Is and errors.As see through the place.
func (p *placed) Unwrap() error { return p.err }

// At wraps e with places, the first one outermost. Of nil it is nil, of no places e as it is.
func At(e error, places ...int) error {
	if e == nil {
		return nil
	}
	for i := len(places) - 1; i >= 0; i-- {
		e = &placed{place: places[i], err: e}
	}
	return e
}

// Kind tells the Errno that e is, or wraps: OK of nil, ErrNone if there is none in it.
func Kind(e error) (k api.Errno) {
	if e == nil {
		return api.OK
	}
	// Errors of others bring methods of their own, which may panic.
	defer func() {
		if recover() != nil {
			k = api.ErrNone
		}
	}()
	if errors.As(e, &k) {
		return k
	}
	return api.ErrNone
}

// Path tells all places of e, the outermost first.
func Path(e error) []int {
	var places []int
	for p := outermost(e); p != nil; p = outermost(p.err) {
		places = append(places, p.place)
	}
	return places
}

// outermost finds the first place in e, also behind errors of others; nil: there is none.
func outermost(e error) (p *placed) {
	// As in Kind: methods of others may panic.
	defer func() {
		if recover() != nil {
			p = nil
		}
	}()
	if errors.As(e, &p) {
		return p
	}
	return nil
}

// Is tells whether e's Kind is k, and k not OK.
func Is(e error, k api.Errno) bool {
	// Kind is asked, not e: an error without an Errno is of the kind ErrNone, though it wraps no ErrNone.
	return k != api.OK && errors.Is(Kind(e), k)
}

// Text tells e's places and its kind in words.
func Text(e error) string {
	var line []byte
	for i, place := range Path(e) {
		if i > 0 {
			line = append(line, '.')
		}
		line = strconv.AppendInt(line, int64(place), 10)
	}
	if len(line) > 0 {
		line = append(line, ' ')
	}
	return string(append(line, Kind(e).Error()...))
}
