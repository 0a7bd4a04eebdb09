package msg

import (
	"errors"
	"strconv"

	"boarder/api"
)

// What this layer itself finds wrong.
var (
	errInvalid = errors.New("the message is not valid")
	errShort   = errors.New("too few bytes")
	errLong    = errors.New("too many bytes")
	errForm    = errors.New("bytes that may not stand there")
)

// below is what a layer below finds wrong: its number is passed on as it is.
type below struct {
	number api.Errno
}

func (f below) Error() string {
	return "error " + strconv.Itoa(int(f.number)) + " of a layer below"
}

// fault says in which part of a message another error occurred.
type fault struct {
	part  string
	cause error
}

func (f fault) Error() string {
	return f.part + ": " + f.cause.Error()
}

func (f fault) Unwrap() error {
	return f.cause
}

// numberOf answers the number that a caller is told, however deep its cause is wrapped.
func numberOf(err error) api.Errno {
	var lower below
	switch {
	case err == nil:
		return api.OK
	case errors.As(err, &lower):
		return lower.number
	case errors.Is(err, errInvalid):
		return api.ErrArg
	case errors.Is(err, errShort):
		return api.ErrMore
	case errors.Is(err, errLong):
		return api.ErrFull
	default: // errForm is the only one left
		return api.ErrForm
	}
}
