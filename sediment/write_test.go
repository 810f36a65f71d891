package sediment_test

import (
	"slices"
	"strings"
	"testing"

	"sediment/api"
	"sediment/disk"
	"sediment/sediment"
)

func TestP5Write(t *testing.T) { // the first half of example 2
	d := disk.New()
	s := open(t, d)
	key, value := strings.Repeat("k", api.MaxKey), strings.Repeat("v", api.MaxValue)
	log := ""
	for i, batch := range [][]api.Change{
		{set("a", "1")},
		{set("a", "")},
		{set(key, value), gone("a")},
		{gone("never there")},
		{set("x", "1"), gone("x"), set("x", "2"), set("y", "1"), gone("y"), set("z", ""), set("z", "3"), set("\x00", "\xff")},
	} {
		beforeCalls, beforeWrote := d.Calls()
		write(t, s, batch...)
		if calls(d) != beforeCalls+1 || wrote(d) != beforeWrote+1 {
			t.Errorf("batch %d was not written in one call", i)
		}
		log += frameOf(i+1, batch...)
		wantFiles(t, d, "log-1", log, "manifest", manifest(2, 0, 1, 0))
		wantLook(t, s, api.Look{Batches: i + 1, Log: 1, Next: 2})
	}
	wantTells(t, s, "\x00=\xff "+key+"="+value+" x=2 z=3")
	s = open(t, d)
	wantTells(t, s, "\x00=\xff "+key+"="+value+" x=2 z=3")
	write(t, s, set("b", "9"))
	wantFiles(t, d, "log-1", log+frameOf(6, set("b", "9")), "manifest", manifest(2, 0, 1, 0))
}

func TestP5Arg(t *testing.T) {
	d := disk.New()
	s := open(t, d)
	long, longer := strings.Repeat("k", 17), strings.Repeat("v", 41)
	before := calls(d)
	for name, batch := range map[string][]api.Change{
		"none":             nil,
		"nine":             slices.Repeat([]api.Change{set("a", "1")}, 9),
		"many":             slices.Repeat([]api.Change{set("a", "1")}, 265), // 9, were it told in a byte
		"no key":           {set("", "1")},
		"no key, gone":     {gone("")},
		"long key":         {set(long, "1")},
		"long key, gone":   {gone(long)},
		"very long key":    {set(strings.Repeat("k", 257), "1")},
		"long value":       {set("a", longer)},
		"very long value":  {set("a", strings.Repeat("v", 256))},
		"gone with value":  {{Key: "a", Value: "1", Gone: true}},
		"the last is none": {set("a", "1"), set("b", "1"), set("", "")},
	} {
		if e := s.Write(batch...); e != api.ErrArg {
			t.Errorf("%s: %d", name, e)
		}
	}
	if calls(d) != before {
		t.Errorf("the disk was asked")
	}
	wantTells(t, s, "")
	wantLook(t, s, api.Look{Log: 1, Next: 2})
}

func TestP5Full(t *testing.T) {
	d := laid("manifest", manifest(10, api.MaxBatches-2, 9, 0), "log-9", frameOf(api.MaxBatches-1, set("a", "1")))
	s := open(t, d)
	write(t, s, set("b", "2"))
	files := filesOf(d)
	wantErrno(t, s.Write(set("c", "3")), api.ErrFull)
	wantErrno(t, s.Write(), api.ErrArg)
	wantErrno(t, s.Sync(), api.OK)
	wantFiles(t, d, files...)
	wantTells(t, s, "a=1 b=2")
	wantLook(t, s, api.Look{Batches: api.MaxBatches, Log: 9, Next: 10})
	wantTells(t, open(t, d), "a=1 b=2")
}

func TestP5Sync(t *testing.T) {
	d := disk.New()
	s := open(t, d)
	write(t, s, set("a", "1"))
	write(t, s, set("b", "2"))
	beforeCalls, beforeWrote := d.Calls()
	wantErrno(t, s.Sync(), api.OK)
	if calls(d) != beforeCalls+1 || wrote(d) != beforeWrote+1 {
		t.Errorf("the log was not synced in one call")
	}
	write(t, s, set("c", "3"))
	d.Crash()
	wantTells(t, open(t, d), "a=1 b=2")
}

// A disk that failed is not touched again (P8, as far as Write and Sync go).
func TestP5Degraded(t *testing.T) {
	for name, call := range map[string]func(*disk.Disk, *sediment.Store) api.Errno{
		"write": func(d *disk.Disk, s *sediment.Store) api.Errno {
			d.Fail(0)
			return s.Write(set("a", "2"), set("b", "2"))
		},
		"sync": func(d *disk.Disk, s *sediment.Store) api.Errno {
			d.Fail(0)
			return s.Sync()
		},
		"no room": func(d *disk.Disk, s *sediment.Store) api.Errno {
			d.Lay("other", make([]byte, api.MaxDisk-100))
			return s.Write(set("a", strings.Repeat("2", 40)))
		},
	} {
		d := disk.New()
		s := open(t, d)
		write(t, s, set("a", "1"))
		if e := call(d, s); e != api.ErrDisk {
			t.Errorf("%s: %d", name, e)
		}
		files, before := filesOf(d), wrote(d)
		wantErrno(t, s.Write(set("c", "3")), api.ErrDegraded)
		wantErrno(t, s.Write(), api.ErrDegraded)
		wantErrno(t, s.Sync(), api.ErrDegraded)
		wantErrno(t, s.Flush(), api.ErrDegraded)
		wantErrno(t, s.Compact(), api.ErrDegraded)
		wantTells(t, s, "a=1")
		if v, in, e := s.Get("a"); v != "1" || !in || e != api.OK {
			t.Errorf("%s: Get = %q, %v, %d", name, v, in, e)
		}
		wantLook(t, s, api.Look{Batches: 1, Log: 1, Next: 2, Degraded: true})
		wantErrno(t, s.Close(), api.OK)
		wantLook(t, s, api.Look{Batches: 1, Log: 1, Next: 2, Degraded: true, Closed: true})
		wantErrno(t, s.Write(), api.ErrClosed)
		wantErrno(t, s.Sync(), api.ErrClosed)
		wantFiles(t, d, files...)
		if wrote(d) != before {
			t.Errorf("%s: the disk was told to change", name)
		}
		d.Lay("other", nil) // room for the log that is written anew
		wantTells(t, open(t, d), "a=1")
	}
}
