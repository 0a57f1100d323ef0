package source

import (
	"errors"
	"strconv"
)

// What can be wrong in a source.
var (
	ErrSyntax = errors.New("not as a source is written")
	ErrLabel  = errors.New("a label that stands ahead already, or that is none")
	ErrRange  = errors.New("a number out of its range")
	ErrNone   = errors.New("no short instruction is the same")
	ErrLong   = errors.New("more bytes than there may be")
)

// LineError tells in which line, from 1 on, something was wrong; it wraps what was.
type LineError struct {
	Line int
	Err  error
}

func (e LineError) Error() string {
	return "line " + strconv.Itoa(e.Line) + ": " + e.Err.Error()
}

// Unwrap lets errors.Is find what was wrong.
func (e LineError) Unwrap() error {
	return e.Err
}
