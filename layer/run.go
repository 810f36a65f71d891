package layer

import (
	"sediment/api"
	"sediment/disk"
	"sediment/fault"
	"sediment/files"
	"sediment/layout"
)

// run: a run (or a base) that is gone through from a key on. Nothing of it is kept: it is read whenever it is gone through.
type run struct {
	disk *disk.Disk
	name string
	key  string
}

// FromRun goes through the entries of the run of this number whose keys are not below this one.
func FromRun(d *disk.Disk, number int, key string) Entries {
	return run{d, layout.RunName(number), key}.each
}

func (r run) read() (layout.Run, error) {
	b, err := files.Read(r.disk, r.name)
	if err != nil {
		return layout.Run{}, err
	}
	found, err := layout.ReadRun(b)
	return found, fault.At(r.name, err)
}

func (r run) each(yield func(api.Change, error) bool) {
	found, err := r.read()
	if err != nil {
		yield(api.Change{}, err)
		return
	}
	for i := found.Seek(r.key); i < found.Count(); i++ {
		block, err := found.Block(i)
		if err != nil {
			yield(api.Change{}, fault.At(r.name, err))
			return
		}
		for _, c := range block {
			if c.Key >= r.key && !yield(c, nil) {
				return
			}
		}
	}
}
