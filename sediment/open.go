package sediment

import (
	"errors"

	"sediment/api"
	"sediment/fault"
	"sediment/files"
	"sediment/layout"
)

// errnoOf tells by which number a failed Open answers: what neither the disk nor a number that is used up is to blame for is a fault of the files' form.
func errnoOf(err error) api.Errno {
	switch {
	case errors.Is(err, fault.ErrDisk):
		return api.ErrDisk
	case errors.Is(err, fault.ErrFull):
		return api.ErrFull
	}
	return api.ErrForm
}

// open finds a store on the disk, or begins one.
func (s *Store) open() (err error) {
	defer s.shutAfter(&err)
	if s.disk == nil {
		return fault.At("no disk", fault.ErrDisk)
	}
	b, err := files.Read(s.disk, layout.ManifestName)
	if errors.Is(err, fault.ErrMissing) {
		return s.begin()
	}
	if err != nil {
		return err
	}
	return s.load(b)
}

// shutAfter shuts a store whose opening failed.
func (s *Store) shutAfter(err *error) {
	if *err != nil {
		s.shut()
	}
}

// begin an empty store. Without a manifest no file means anything, so all may go ahead of it.
func (s *Store) begin() error {
	if err := files.RemoveAllBut(s.disk, nil); err != nil {
		return err
	}
	m := layout.Manifest{Next: 2, Log: 1}
	if err := files.Lay(s.disk, layout.LogName(m.Log), nil); err != nil {
		return err
	}
	return s.install(m)
}

// load the store that a manifest tells of. All is read and judged ahead of the first change, since what is refused stays as it is.
func (s *Store) load(manifest []byte) error {
	m, err := layout.ReadManifest(manifest)
	if err != nil {
		return err
	}
	s.manifest, s.last = m, m.Last
	if err := s.checkRuns(); err != nil {
		return err
	}
	log, err := files.Read(s.disk, layout.LogName(m.Log))
	if err != nil {
		return err
	}
	if right := s.replay(log); right < len(log) {
		err = s.renewLog(log[:right])
	} else {
		err = files.MakeSure(s.disk, s.names())
	}
	if err != nil {
		return err
	}
	return files.RemoveAllBut(s.disk, s.names())
}

// names of the files that the store is made of.
func (s *Store) names() []string {
	return append(s.manifest.Files(), layout.ManifestName)
}

// checkRuns goes through all runs and the base, each to its end: none may be found wrong only when it is asked.
func (s *Store) checkRuns() error {
	for _, entries := range s.settled("") {
		for _, err := range entries {
			if err != nil {
				return err
			}
		}
	}
	return nil
}

// replay applies a log's batches as long as they are right, and tells how many bytes they take.
func (s *Store) replay(log []byte) int {
	rest := log
	for s.last < api.MaxBatches {
		batch, behind, err := layout.TakeBatch(rest, s.last+1)
		if err != nil {
			break
		}
		s.apply(batch)
		rest = behind
	}
	return len(log) - len(rest)
}

// renewLog writes the frames that are right as a new log: a file can't be cut off, and what is appended behind a wrong frame would not be found.
func (s *Store) renewLog(frames []byte) error {
	m := s.manifest
	number, err := m.TakeNumber()
	if err != nil {
		return fault.At("new log", err)
	}
	m.Log = number
	if err := files.Lay(s.disk, layout.LogName(m.Log), frames); err != nil {
		return err
	}
	return s.install(m)
}
