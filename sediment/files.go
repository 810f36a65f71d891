package sediment

import (
	"math"
	"slices"

	"sediment/api"
	"sediment/fault"
	"sediment/layout"
)

// diskError makes an error of what the disk answered. Whatever it is, it is the disk's fault: by then all files that are asked for are known to be there.
func diskError(name string, e api.Errno) error {
	if e == api.OK {
		return nil
	}
	return fault.At(name, fault.ErrDisk)
}

// read all that a file holds.
func (s *Store) read(name string) ([]byte, error) {
	b, e := s.disk.Read(name, 0, math.MaxInt)
	switch e {
	case api.OK:
		return b, nil
	case api.ErrMissing:
		return nil, fault.At(name, fault.ErrMissing)
	}
	return nil, fault.At(name, fault.ErrDisk)
}

// lay a file that holds just this, and make sure of what it holds.
func (s *Store) lay(name string, b []byte) error {
	e := s.disk.Create(name)
	if e == api.OK && len(b) > 0 {
		e = s.disk.Append(name, b)
	}
	if e == api.OK {
		e = s.disk.Sync(name)
	}
	return diskError(name, e)
}

// install a manifest whose files hold for sure what they must (P7): only when their names are sure, too, may it be written.
func (s *Store) install(m layout.Manifest) error {
	if err := s.syncNames(); err != nil {
		return err
	}
	if err := s.lay(layout.TemporaryName, m.Frame()); err != nil {
		return err
	}
	e := s.disk.Rename(layout.TemporaryName, layout.ManifestName)
	if err := diskError(layout.ManifestName, e); err != nil {
		return err
	}
	if err := s.syncNames(); err != nil {
		return err
	}
	s.manifest = m
	return nil
}

// makeSure of the files that were found: who wrote them may have stopped ahead of that.
func (s *Store) makeSure() error {
	for _, name := range s.manifest.Names() {
		if err := diskError(name, s.disk.Sync(name)); err != nil {
			return err
		}
	}
	return s.syncNames()
}

func (s *Store) syncNames() error {
	return diskError("names", s.disk.SyncDir())
}

// removeAllBut the files of these names, and make sure of it.
func (s *Store) removeAllBut(kept []string) error {
	names, e := s.disk.Names()
	if err := diskError("names", e); err != nil {
		return err
	}
	removed := false
	for _, name := range names {
		if slices.Contains(kept, name) {
			continue
		}
		if err := diskError(name, s.disk.Remove(name)); err != nil {
			return err
		}
		removed = true
	}
	if !removed {
		return nil
	}
	return s.syncNames()
}
