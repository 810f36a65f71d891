package sediment

import (
	"testing"

	"sediment/api"
	"sediment/disk"
)

// A store whose opening failed is shut: it keeps hold of nothing.
func TestFailedOpenShuts(t *testing.T) {
	wrong, failing := disk.New(), disk.New()
	wrong.Lay("manifest", nil)
	failing.Cut(3)
	for _, d := range []*disk.Disk{wrong, failing} {
		s := &Store{disk: d}
		if err := s.open(); err == nil || !s.closed || s.disk != nil {
			t.Errorf("open: %v; closed %v", err, s.closed)
		}
		if e := s.Close(); e != api.ErrClosed {
			t.Errorf("Close = %d", e)
		}
	}
	s := &Store{disk: disk.New()}
	if err := s.open(); err != nil || s.closed {
		t.Errorf("open: %v; closed %v", err, s.closed)
	}
}
