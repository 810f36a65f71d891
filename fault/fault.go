// Package fault: the errors by which readers give up, and how they are wrapped on their way out.
package fault

import "errors"

var (
	ErrShort   = errors.New("it ends too early")
	ErrSum     = errors.New("the sum is wrong")
	ErrValue   = errors.New("a number or a length that may not be")
	ErrTail    = errors.New("something stands behind the end")
	ErrMissing = errors.New("there is no such file")
	ErrDisk    = errors.New("the disk failed")
	ErrFull    = errors.New("no number is left")
)

// Fault: an error, and where it was met.
type Fault struct {
	Where string
	Cause error
}

// Error tells the way to the cause, the outermost place first.
func (f *Fault) Error() string { return f.Where + ": " + f.Cause.Error() }

// Unwrap lets errors.Is find the cause.
func (f *Fault) Unwrap() error { return f.Cause }

// At wraps an error; what is no error stays none.
func At(where string, cause error) error {
	if cause == nil {
		return nil
	}
	return &Fault{where, cause}
}
