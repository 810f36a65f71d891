package fault

import (
	"errors"
	"testing"
)

func TestWrapped(t *testing.T) {
	err := At("manifest", At("frame", ErrSum))
	if !errors.Is(err, ErrSum) || errors.Is(err, ErrShort) {
		t.Errorf("errors.Is does not find the cause of %v, and it alone", err)
	}
	if want := "manifest: frame: the sum is wrong"; err.Error() != want {
		t.Errorf("told %q, want %q", err, want)
	}
	var f *Fault
	if !errors.As(err, &f) || f.Where != "manifest" {
		t.Errorf("errors.As finds %v", f)
	}
}

func TestNoError(t *testing.T) {
	if err := At("manifest", nil); err != nil {
		t.Errorf("no error, wrapped, is %v", err)
	}
}
