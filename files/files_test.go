package files

import (
	"errors"
	"slices"
	"strings"
	"testing"

	"sediment/api"
	"sediment/disk"
	"sediment/fault"
)

func laid(l ...string) *disk.Disk {
	d := disk.New()
	for i := 0; i < len(l); i += 2 {
		d.Lay(l[i], []byte(l[i+1]))
	}
	return d
}

func held(d *disk.Disk) []string {
	var l []string
	for _, name := range d.All() {
		b, _ := d.Peek(name)
		l = append(l, name, string(b))
	}
	return l
}

func wantHeld(t *testing.T, d *disk.Disk, want ...string) {
	t.Helper()
	if got := held(d); !slices.Equal(got, want) {
		t.Errorf("the disk has %q, want %q", got, want)
	}
}

func TestRead(t *testing.T) {
	long := strings.Repeat("x", api.MaxDisk)
	d := laid("a", "text", "b", "", "c", long)
	for name, want := range map[string]string{"a": "text", "b": "", "c": long} {
		before, _ := d.Calls()
		if got, err := Read(d, name); string(got) != want || err != nil {
			t.Errorf("Read = %d bytes, %v", len(got), err)
		}
		if after, _ := d.Calls(); after != before+1 {
			t.Errorf("%d calls", after-before)
		}
	}
	if got, err := Read(d, "none"); got != nil || !errors.Is(err, fault.ErrMissing) || errors.Is(err, fault.ErrDisk) {
		t.Errorf("Read = %q, %v", got, err)
	}
	d.Fail(0)
	if got, err := Read(d, "a"); got != nil || !errors.Is(err, fault.ErrDisk) || errors.Is(err, fault.ErrMissing) {
		t.Errorf("Read = %q, %v", got, err)
	}
}

func TestChanges(t *testing.T) {
	start := []string{"a", "1", "b", "2", "c", "3"}
	for name, c := range map[string]struct {
		change func(*disk.Disk) error
		want   []string // also behind a crash
	}{
		"rename":        {func(d *disk.Disk) error { return Rename(d, "a", "b") }, []string{"b", "1", "c", "3"}},
		"remove":        {func(d *disk.Disk) error { return Remove(d, []string{"c", "a"}) }, []string{"b", "2"}},
		"remove none":   {func(d *disk.Disk) error { return Remove(d, nil) }, start},
		"remove others": {func(d *disk.Disk) error { return RemoveAllBut(d, []string{"b", "x"}) }, []string{"b", "2"}},
		"remove all":    {func(d *disk.Disk) error { return RemoveAllBut(d, nil) }, nil},
		"keep all":      {func(d *disk.Disk) error { return RemoveAllBut(d, []string{"c", "b", "a"}) }, start},
		"lay and make sure": {func(d *disk.Disk) error {
			if err := Lay(d, "b", []byte("new")); err != nil {
				return err
			}
			return MakeSure(d, []string{"b", "a"})
		}, []string{"a", "1", "b", "new", "c", "3"}},
		"lay nothing": {func(d *disk.Disk) error {
			if err := Lay(d, "d", nil); err != nil {
				return err
			}
			return MakeSure(d, nil)
		}, []string{"a", "1", "b", "2", "c", "3", "d", ""}},
		"append and sync": {func(d *disk.Disk) error {
			d.Append("a", []byte("+"))
			return Sync(d, "a")
		}, []string{"a", "1+", "b", "2", "c", "3"}},
	} {
		d := laid(start...)
		if err := c.change(d); err != nil {
			t.Errorf("%s: %v", name, err)
		}
		wantHeld(t, d, c.want...)
		d.Crash()
		wantHeld(t, d, c.want...)
		if name == "append and sync" {
			continue // the test's own call may fail unseen
		}
		for n := 0; ; n++ {
			d := laid(start...)
			d.Fail(n)
			err := c.change(d)
			if after, _ := d.Calls(); after <= n {
				break
			} else if after != n+1 {
				t.Errorf("%s: the disk was asked again when call %d had failed", name, n)
			}
			if !errors.Is(err, fault.ErrDisk) {
				t.Errorf("%s: call %d failed: %v", name, n, err)
			}
		}
	}
}

func TestLaySaysNoRoom(t *testing.T) {
	d := laid("full", strings.Repeat("x", api.MaxDisk))
	if err := Lay(d, "a", []byte("1")); !errors.Is(err, fault.ErrDisk) {
		t.Errorf("Lay: %v", err)
	}
	if err := Sync(d, "none"); !errors.Is(err, fault.ErrDisk) {
		t.Errorf("Sync of no file: %v", err)
	}
}
