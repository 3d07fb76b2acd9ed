// Package config is layer 1: see shared/doc/01-config.md.
package config

import (
	"errors"
	"strconv"
	"strings"

	"hopper/api"
)

// Bad is what is wrong with a cache that may not be: a field, what it was, and an error.
type Bad struct {
	Field string
	N     int
	Err   error
}

// Error goes down a *Bad within a *Bad by a loop: a text of many levels is then written once, not once a level.
func (b *Bad) Error() string {
	var text strings.Builder
	for b != nil {
		text.WriteString(b.Field + ": " + strconv.Itoa(b.N))
		if b.Err == nil {
			break
		}
		text.WriteString(": ")
		inner, ok := b.Err.(*Bad)
		if !ok {
			text.WriteString(textOf(b.Err))
		}
		b = inner
	}
	return text.String()
}

// textOf is empty of an error that panics when it is asked: whatever stands in Err, Error may not panic.
func textOf(e error) (text string) {
	defer func() {
		if recover() != nil {
			text = ""
		}
	}()
	return e.Error()
}

// Unwrap lets errors.Is and errors.As go on to Err.
func (b *Bad) Unwrap() error {
	if b == nil {
		return nil
	}
	return b.Err
}

// May tells what is wrong with a policy, or a capacity; with both wrong, the policy, as it is asked first.
func May(policy, capacity int) error {
	var wrong error
	ask := func(field string, n, most int) {
		if wrong == nil && (n < 1 || n > most) {
			wrong = &Bad{Field: field, N: n, Err: api.ErrConfig}
		}
	}
	ask("policy", policy, api.LIRS)
	ask("capacity", capacity, api.MaxCapacity)
	return wrong
}

// Code is ErrForm of an error without a number: what isn't one of ours counts as a text that is none.
func Code(e error) api.Errno {
	if e == nil {
		return api.OK
	}
	number, ok := numberIn(e)
	if !ok {
		return api.ErrForm
	}
	return number
}

// Field is what a *Bad in an error names; one that is nil names nothing.
func Field(e error) (string, int, bool) {
	bad, ok := badIn(e)
	if !ok || bad == nil {
		return "", 0, false
	}
	return bad.Field, bad.N, true
}

// numberIn finds nothing in a foreign error that panics when it is unwrapped, as Code may not panic.
func numberIn(e error) (found api.Errno, ok bool) {
	defer func() {
		if recover() != nil {
			found, ok = api.OK, false
		}
	}()
	ok = errors.As(e, &found)
	return found, ok
}

// badIn finds nothing in such an error either, as Field may not panic.
func badIn(e error) (found *Bad, ok bool) {
	defer func() {
		if recover() != nil {
			found, ok = nil, false
		}
	}()
	ok = errors.As(e, &found)
	return found, ok
}
