package sediment

import (
	"sediment/api"
	"sediment/files"
	"sediment/layer"
	"sediment/layout"
)

// layers of the store from a key on, the newest first.
func (s *Store) layers(key string) []layer.Entries {
	return append([]layer.Entries{s.memory.From(key)}, s.settled(key)...)
}

// settled: the layers that lie on the disk, from a key on, the newest first.
func (s *Store) settled(key string) []layer.Entries {
	var l []layer.Entries
	for _, number := range s.manifest.Settled() {
		l = append(l, layer.FromRun(s.disk, number, key))
	}
	return l
}

// install a manifest (P7): it may be written only when the files that it names are sure, and their names.
func (s *Store) install(m layout.Manifest) error {
	if err := files.MakeSure(s.disk, m.Files()); err != nil {
		return err
	}
	if err := files.Lay(s.disk, layout.TemporaryName, m.Frame()); err != nil {
		return err
	}
	if err := files.Sync(s.disk, layout.TemporaryName); err != nil {
		return err
	}
	if err := files.Rename(s.disk, layout.TemporaryName, layout.ManifestName); err != nil {
		return err
	}
	s.manifest = m
	return nil
}

// syncLog makes sure of the log. So it is done ahead of anything that is laid beside it, too: were the log torn when the power goes, Open would have to write it anew, and what was laid might have left no room for that.
func (s *Store) syncLog() error {
	return files.Sync(s.disk, layout.LogName(s.manifest.Log))
}

// flush lets what lies in memory settle in a new run, and begins a new log.
func (s *Store) flush() error {
	old, m := s.manifest, s.manifest
	run, err := m.TakeNumber()
	if err != nil {
		return err
	}
	m.Log, err = m.TakeNumber()
	if err != nil {
		return err
	}
	m.Last, m.Runs = s.last, append([]int{run}, m.Runs...)
	entries, err := layer.Gather(s.memory.From(""), "")
	if err != nil {
		return err
	}
	if err := s.syncLog(); err != nil {
		return err
	}
	if err := files.Lay(s.disk, layout.RunName(run), layout.MakeRun(entries)); err != nil {
		return err
	}
	if err := files.Lay(s.disk, layout.LogName(m.Log), nil); err != nil {
		return err
	}
	if err := s.install(m); err != nil {
		return err
	}
	s.memory = layer.Memory{}
	return files.Remove(s.disk, []string{layout.LogName(old.Log)})
}

// compact presses runs and base into a new base, or into none.
func (s *Store) compact() error {
	old, m := s.manifest, s.manifest
	live, err := s.live()
	if err != nil {
		return err
	}
	m.Base, m.Runs = 0, nil
	if len(live) > 0 {
		m.Base, err = m.TakeNumber()
		if err != nil {
			return err
		}
		if err := s.syncLog(); err != nil {
			return err
		}
		if err := files.Lay(s.disk, layout.RunName(m.Base), layout.MakeRun(live)); err != nil {
			return err
		}
	}
	if err := s.install(m); err != nil {
		return err
	}
	return files.Remove(s.disk, layout.RunNames(old.Settled()))
}

// live: the entries of runs and base that are not gone. Below a base nothing lies that what is gone would have to hide.
func (s *Store) live() ([]api.Change, error) {
	var l []api.Change
	for c, err := range layer.Merge(s.settled(""), "") {
		if err != nil {
			return nil, err
		}
		if !c.Gone {
			l = append(l, c)
		}
	}
	return l, nil
}
