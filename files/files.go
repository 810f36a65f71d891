// Package files: what the store does with whole files of a disk, with errors that are found by errors.Is.
package files

import (
	"math"
	"slices"

	"sediment/api"
	"sediment/disk"
	"sediment/fault"
)

// failure makes an error of what the disk answered. Whatever it is, it is the disk's fault: a file that is to be changed is known to be there.
func failure(name string, e api.Errno) error {
	if e == api.OK {
		return nil
	}
	return fault.At(name, fault.ErrDisk)
}

// Read all that a file holds. It is one call of the disk, since any call may fail, and a store does not work on behind that.
func Read(d *disk.Disk, name string) ([]byte, error) {
	b, e := d.Read(name, 0, math.MaxInt)
	if e == api.ErrMissing {
		return nil, fault.At(name, fault.ErrMissing)
	}
	if err := failure(name, e); err != nil {
		return nil, err
	}
	return b, nil
}

// Lay a file that holds just this; nothing is made sure of.
func Lay(d *disk.Disk, name string, b []byte) error {
	if err := failure(name, d.Create(name)); err != nil {
		return err
	}
	if len(b) == 0 {
		return nil
	}
	return failure(name, d.Append(name, b))
}

// Sync makes sure of what a file holds.
func Sync(d *disk.Disk, name string) error {
	return failure(name, d.Sync(name))
}

// syncNames makes sure of all names.
func syncNames(d *disk.Disk) error {
	return failure("names", d.SyncDir())
}

// MakeSure of what these files hold, and of all names.
func MakeSure(d *disk.Disk, names []string) error {
	for _, name := range names {
		if err := Sync(d, name); err != nil {
			return err
		}
	}
	return syncNames(d)
}

// Rename a file, and make sure of it.
func Rename(d *disk.Disk, from, to string) error {
	if err := failure(from, d.Rename(from, to)); err != nil {
		return err
	}
	return syncNames(d)
}

// Remove these files, and make sure of it.
func Remove(d *disk.Disk, names []string) error {
	for _, name := range names {
		if err := failure(name, d.Remove(name)); err != nil {
			return err
		}
	}
	if len(names) == 0 {
		return nil
	}
	return syncNames(d)
}

// RemoveAllBut the files of these names, and make sure of it.
func RemoveAllBut(d *disk.Disk, kept []string) error {
	names, e := d.Names()
	if err := failure("names", e); err != nil {
		return err
	}
	var others []string
	for _, name := range names {
		if !slices.Contains(kept, name) {
			others = append(others, name)
		}
	}
	return Remove(d, others)
}
