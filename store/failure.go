package store

import (
	"errors"
	"strconv"

	"cannery/api"
)

// refusal is an error of the system.
type refusal api.Errno

func (r refusal) Error() string { return "error " + strconv.Itoa(int(r)) }

// failure is the error of a move with the move's index.
type failure struct {
	index int
	err   error
}

func (f failure) Error() string { return "move " + strconv.Itoa(f.index) + ": " + f.err.Error() }

func (f failure) Unwrap() error { return f.err }

// errnoOf returns the error of the system that an error is or wraps.
func errnoOf(err error) api.Errno {
	var r refusal
	if errors.As(err, &r) {
		return api.Errno(r)
	}
	return api.OK
}
