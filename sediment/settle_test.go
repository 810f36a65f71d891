package sediment_test

import (
	"strconv"
	"strings"
	"testing"

	"sediment/api"
	"sediment/disk"
	"sediment/sediment"
)

func TestP6Examples(t *testing.T) { // 2 and 3
	d := disk.New()
	s := open(t, d)
	write(t, s, set("a", "1"))
	wantErrno(t, s.Flush(), api.OK)
	wantFiles(t, d, "log-3", "", "manifest", manifest(4, 1, 3, 0, 2), "run-2", run(set("a", "1")))
	wantLook(t, s, api.Look{Batches: 1, Log: 3, Next: 4, Runs: []int{2}})
	wantTells(t, s, "a=1")
	write(t, s, gone("a"))
	wantTells(t, s, "")
	wantErrno(t, s.Compact(), api.OK)
	wantFiles(t, d, "log-3", frameOf(2, gone("a")), "manifest", manifest(5, 1, 3, 4), "run-4", run(set("a", "1")))
	wantLook(t, s, api.Look{Batches: 2, Log: 3, Base: 4, Next: 5})
	wantTells(t, s, "")
	wantErrno(t, s.Flush(), api.OK)
	wantFiles(t, d, "log-6", "", "manifest", manifest(7, 2, 6, 4, 5), "run-4", run(set("a", "1")), "run-5", run(gone("a")))
	wantErrno(t, s.Compact(), api.OK)
	wantFiles(t, d, "log-6", "", "manifest", manifest(7, 2, 6, 0))
	wantLook(t, s, api.Look{Batches: 2, Log: 6, Next: 7})
	wantTells(t, s, "")
	d.Crash() // all of it was made sure of
	wantFiles(t, d, "log-6", "", "manifest", manifest(7, 2, 6, 0))
	wantTells(t, open(t, d), "")
}

// keysOf so many keys, rising.
func keysOf(n int) []string {
	var l []string
	for i := range n {
		l = append(l, "k"+strconv.Itoa(10+i))
	}
	return l
}

func TestP6RunsOfAllLengths(t *testing.T) {
	for _, n := range []int{1, 2, 3, 4, 5, 7, 8, 9, 12, 13} {
		d := disk.New()
		s := open(t, d)
		var entries []api.Change
		keys := keysOf(n)
		for i := range keys { // from the last one down, each with an older value
			key := keys[n-1-i]
			write(t, s, set(key, "old"), set(key, key))
		}
		for _, key := range keys {
			entries = append(entries, set(key, key))
		}
		wantErrno(t, s.Flush(), api.OK)
		wantFiles(t, d, "log-3", "", "manifest", manifest(4, n, 3, 0, 2), "run-2", run(entries...))
		wantGets(t, s, "", "k", "k1", "k10\x00", "k99")
		again := open(t, d)
		wantLook(t, again, s.Look())
		wantTells(t, again, tells(t, s))
		wantErrno(t, again.Compact(), api.OK)
		wantFiles(t, d, "log-3", "", "manifest", manifest(5, n, 3, 4), "run-4", run(entries...))
		wantGets(t, again, "", "k", "k1", "k10\x00", "k99")
	}
}

// What is gone settles with an entry, in a run; not in a base.
func TestP6Gone(t *testing.T) {
	d := disk.New()
	s := open(t, d)
	write(t, s, set("a", "1"), set("b", "2"), gone("a"), gone("never"))
	wantErrno(t, s.Flush(), api.OK)
	wantFiles(t, d, "log-3", "", "manifest", manifest(4, 1, 3, 0, 2), "run-2", run(gone("a"), set("b", "2"), gone("never")))
	wantErrno(t, s.Compact(), api.OK)
	wantFiles(t, d, "log-3", "", "manifest", manifest(5, 1, 3, 4), "run-4", run(set("b", "2")))
}

// The newest run is named first.
func TestP6ManyRuns(t *testing.T) {
	d := disk.New()
	s := open(t, d)
	for i := range 4 {
		write(t, s, set("a", strconv.Itoa(i)), set(strconv.Itoa(i), ""))
		wantErrno(t, s.Flush(), api.OK)
	}
	wantLook(t, s, api.Look{Batches: 4, Log: 9, Next: 10, Runs: []int{8, 6, 4, 2}})
	wantTells(t, s, "0= 1= 2= 3= a=3")
	wantTells(t, open(t, copyOf(d)), "0= 1= 2= 3= a=3")
	files := []string{"log-9", "", "manifest", manifest(10, 4, 9, 0, 8, 6, 4, 2)}
	for i := range 4 { // each has what its own log had, and nothing of the others'
		files = append(files, "run-"+strconv.Itoa(2+2*i), run(set(strconv.Itoa(i), ""), set("a", strconv.Itoa(i))))
	}
	wantFiles(t, d, files...)
	look := s.Look()
	look.Runs[0] = 99 // the caller's
	wantLook(t, s, api.Look{Batches: 4, Log: 9, Next: 10, Runs: []int{8, 6, 4, 2}})
	wantErrno(t, s.Compact(), api.OK)
	wantFiles(t, d, "log-9", "", "manifest", manifest(11, 4, 9, 10), "run-10", run(set("0", ""), set("1", ""), set("2", ""), set("3", ""), set("a", "3")))
	write(t, s, set("a", "4"), gone("0"))
	wantErrno(t, s.Flush(), api.OK)
	wantLook(t, s, api.Look{Batches: 5, Log: 12, Base: 10, Next: 13, Runs: []int{11}})
	wantTells(t, s, "1= 2= 3= a=4")
	wantErrno(t, s.Close(), api.OK)
	wantLook(t, s, api.Look{Batches: 5, Log: 12, Base: 10, Next: 13, Runs: []int{11}, Closed: true})
}

// Nothing happens: the disk is not asked.
func TestP6Nothing(t *testing.T) {
	for name, c := range map[string]struct {
		d    *disk.Disk
		call func(*sediment.Store) api.Errno
	}{
		"flush, nothing was written":      {disk.New(), (*sediment.Store).Flush},
		"compact, nothing was written":    {disk.New(), (*sediment.Store).Compact},
		"flush, runs alone":               {laid("manifest", manifest(10, 5, 9, 0, 3), "log-9", "", "run-3", run(set("a", "1"))), (*sediment.Store).Flush},
		"compact, a log alone":            {laid("manifest", manifest(10, 5, 9, 0), "log-9", frameOf(6, set("a", "1"))), (*sediment.Store).Compact},
		"compact, a base alone":           {laid("manifest", manifest(10, 5, 9, 3), "log-9", "", "run-3", run(set("a", "1"), gone("b"))), (*sediment.Store).Compact},
		"compact, a base all gone":        {laid("manifest", manifest(10, 5, 9, 3), "log-9", "", "run-3", run(gone("b"))), (*sediment.Store).Compact},
		"flush, no number is left":        {laid("manifest", manifest(api.MaxNumber, 5, 9, 0, 3), "log-9", "", "run-3", run(set("a", "1"))), (*sediment.Store).Flush},
		"compact, no number is left":      {laid("manifest", manifest(api.MaxNumber, 5, 9, 3), "log-9", "", "run-3", run(set("a", "1"))), (*sediment.Store).Compact},
		"flush, the last batch is in run": {laid("manifest", manifest(10, api.MaxBatches, 9, 0, 3), "log-9", "", "run-3", run(set("a", "1"))), (*sediment.Store).Flush},
	} {
		s := open(t, c.d)
		files, before := filesOf(c.d), calls(c.d)
		if e := c.call(s); e != api.OK {
			t.Errorf("%s: %d", name, e)
		}
		wantFiles(t, c.d, files...)
		if calls(c.d) != before {
			t.Errorf("%s: the disk was asked", name)
		}
	}
}

func TestP6FullFlush(t *testing.T) {
	for next, want := range map[int]api.Errno{api.MaxNumber - 3: api.OK, api.MaxNumber - 2: api.OK, api.MaxNumber - 1: api.ErrFull, api.MaxNumber: api.ErrFull} {
		d := laid("manifest", manifest(next, 5, 9, 0, 3), "log-9", frameOf(6, set("f", "6")), "run-3", run(set("a", "1")))
		s := open(t, d)
		files, before := filesOf(d), wrote(d)
		wantErrno(t, s.Flush(), want)
		wantTells(t, s, "a=1 f=6")
		if want == api.ErrFull {
			wantFiles(t, d, files...)
			if wrote(d) != before {
				t.Errorf("next %d: the disk was told to change", next)
			}
			wantLook(t, s, api.Look{Batches: 6, Log: 9, Next: next, Runs: []int{3}})
			write(t, s, set("g", "7")) // it goes on
			wantTells(t, open(t, d), "a=1 f=6 g=7")
			continue
		}
		wantFiles(t, d, "log-"+strconv.Itoa(next+1), "", "manifest", manifest(next+2, 6, next+1, 0, next, 3), "run-"+strconv.Itoa(next), run(set("f", "6")), "run-3", run(set("a", "1")))
		wantLook(t, open(t, d), api.Look{Batches: 6, Log: next + 1, Next: next + 2, Runs: []int{next, 3}})
	}
}

func TestP6FullCompact(t *testing.T) {
	for next, want := range map[int]api.Errno{api.MaxNumber - 2: api.OK, api.MaxNumber - 1: api.OK, api.MaxNumber: api.ErrFull} {
		d := laid("manifest", manifest(next, 5, 9, 4, 3), "log-9", frameOf(6, set("f", "6")), "run-3", run(set("a", "1")), "run-4", run(set("b", "2")))
		s := open(t, d)
		files, before := filesOf(d), wrote(d)
		wantErrno(t, s.Compact(), want)
		wantTells(t, s, "a=1 b=2 f=6")
		if want == api.ErrFull {
			wantFiles(t, d, files...)
			if wrote(d) != before {
				t.Errorf("next %d: the disk was told to change", next)
			}
			wantLook(t, s, api.Look{Batches: 6, Log: 9, Base: 4, Next: next, Runs: []int{3}})
			continue
		}
		wantFiles(t, d, "log-9", frameOf(6, set("f", "6")), "manifest", manifest(next+1, 5, 9, next), "run-"+strconv.Itoa(next), run(set("a", "1"), set("b", "2")))
		wantLook(t, open(t, d), api.Look{Batches: 6, Log: 9, Base: next, Next: next + 1})
	}
}

// A Compact that leaves nothing takes no number, and is never full.
func TestP6NothingIsLeft(t *testing.T) {
	for _, next := range []int{10, api.MaxNumber - 1, api.MaxNumber} {
		for _, c := range []struct {
			base  int
			files []string
		}{
			{0, []string{"run-3", run(gone("a"))}},
			{0, []string{"run-3", run(gone("a"), gone("b"), gone("c"), gone("d"), gone("e"))}},
			{4, []string{"run-3", run(gone("a"), gone("b")), "run-4", run(set("a", "1"), gone("c"))}},
			{4, []string{"run-3", run(gone("x")), "run-4", run(gone("a"))}},
		} {
			log := frameOf(6, set("f", "6"))
			d := laid(append(c.files, "manifest", manifest(next, 5, 9, c.base, 3), "log-9", log)...)
			s := open(t, d)
			wantErrno(t, s.Compact(), api.OK)
			wantFiles(t, d, "log-9", log, "manifest", manifest(next, 5, 9, 0))
			wantLook(t, s, api.Look{Batches: 6, Log: 9, Next: next})
			wantTells(t, s, "f=6")
			wantTells(t, open(t, d), "f=6")
		}
	}
}

// A base that somebody else has laid may have entries of what is gone.
func TestP6BaseWithGone(t *testing.T) {
	d := laid("manifest", manifest(10, 5, 9, 3, 7, 4), "log-9", "", "run-3", run(set("a", "3"), gone("b"), set("c", "3"), gone("d"), set("e", "3"), gone("f")), "run-4", run(gone("a"), set("b", "4")), "run-7", run(set("a", "7"), gone("e")))
	s := open(t, d)
	wantTells(t, s, "a=7 b=4 c=3")
	wantGets(t, s, "d", "e", "f")
	wantErrno(t, s.Compact(), api.OK)
	wantFiles(t, d, "log-9", "", "manifest", manifest(11, 5, 9, 10), "run-10", run(set("a", "7"), set("b", "4"), set("c", "3")))
	wantTells(t, s, "a=7 b=4 c=3")
}

// Files that are no manifest's are not a Flush's to remove.
func TestP6RemovesTheOldAlone(t *testing.T) {
	d := disk.New()
	s := open(t, d)
	write(t, s, set("a", "1"))
	d.Lay("other", []byte("x"))
	wantErrno(t, s.Flush(), api.OK)
	wantErrno(t, s.Compact(), api.OK)
	wantFiles(t, d, "log-3", "", "manifest", manifest(5, 1, 3, 4), "other", "x", "run-4", run(set("a", "1")))
}

func TestP6Refuses(t *testing.T) {
	d := laid("manifest", manifest(api.MaxNumber, 5, 9, 0, 3), "log-9", frameOf(6, set("f", "6")), "run-3", run(set("a", "1")))
	s := open(t, d)
	d.Fail(0)
	wantErrno(t, s.Sync(), api.ErrDisk)
	files, before := filesOf(d), calls(d)
	wantErrno(t, s.Flush(), api.ErrDegraded)
	wantErrno(t, s.Compact(), api.ErrDegraded)
	wantErrno(t, s.Close(), api.OK)
	wantErrno(t, s.Flush(), api.ErrClosed)
	wantErrno(t, s.Compact(), api.ErrClosed)
	wantFiles(t, d, files...)
	if calls(d) != before {
		t.Errorf("the disk was asked")
	}
}

func TestP6NoRoom(t *testing.T) {
	d := disk.New()
	s := open(t, d)
	write(t, s, set("a", strings.Repeat("1", 40)))
	d.Lay("other", make([]byte, api.MaxDisk-150))
	wantErrno(t, s.Flush(), api.ErrDisk)
	wantTells(t, s, "a="+strings.Repeat("1", 40))
	wantErrno(t, s.Flush(), api.ErrDegraded)
	s = open(t, d)
	wantLook(t, s, api.Look{Batches: 1, Log: 1, Next: 2})
	wantErrno(t, s.Flush(), api.OK) // "other" is gone
	wantTells(t, s, "a="+strings.Repeat("1", 40))
}

// changing: a store on a disk, and a call that installs a manifest.
type changing struct {
	name  string
	start []string
	call  func(*disk.Disk) (*sediment.Store, api.Errno)
	files []string // behind it
	tells string
}

// after opens a store, does this, and then the call.
func after(ahead func(*sediment.Store), call func(*sediment.Store) api.Errno) func(*disk.Disk) (*sediment.Store, api.Errno) {
	return func(d *disk.Disk) (*sediment.Store, api.Errno) {
		s, e := sediment.Open(d)
		if e != api.OK {
			return nil, e
		}
		ahead(s)
		return s, call(s)
	}
}

func changings() []changing {
	one, two := frameOf(6, set("f", "6"), gone("a")), frameOf(7, set("g", "7"))
	runs := []string{"run-3", run(set("a", "1"), set("b", "2")), "run-4", run(set("b", "4"), gone("c"))}
	none := func(*sediment.Store) {}
	more := func(s *sediment.Store) { s.Write(set("g", "7")) }
	with := func(l ...string) []string { return append(l, runs...) }
	return []changing{
		{"flush", with("log-9", one, "manifest", manifest(10, 5, 9, 3, 4)), after(none, (*sediment.Store).Flush),
			[]string{"log-11", "", "manifest", manifest(12, 6, 11, 3, 10, 4), "run-10", run(gone("a"), set("f", "6")), "run-3", runs[1], "run-4", runs[3]}, "b=4 f=6"},
		{"flush of what was just written", with("log-9", one, "manifest", manifest(10, 5, 9, 0, 4, 3)), after(more, (*sediment.Store).Flush),
			[]string{"log-11", "", "manifest", manifest(12, 7, 11, 0, 10, 4, 3), "run-10", run(gone("a"), set("f", "6"), set("g", "7")), "run-3", runs[1], "run-4", runs[3]}, "b=4 f=6 g=7"},
		{"compact", with("log-9", one, "manifest", manifest(10, 5, 9, 0, 4, 3)), after(more, (*sediment.Store).Compact),
			[]string{"log-9", one + two, "manifest", manifest(11, 5, 9, 10), "run-10", run(set("a", "1"), set("b", "4"))}, "b=4 f=6 g=7"},
		{"compact with a base", with("log-9", one, "manifest", manifest(10, 5, 9, 3, 4)), after(none, (*sediment.Store).Compact),
			[]string{"log-9", one, "manifest", manifest(11, 5, 9, 10), "run-10", run(set("a", "1"), set("b", "4"))}, "b=4 f=6"},
		{"compact that leaves nothing", []string{"log-9", one, "manifest", manifest(10, 5, 9, 3, 4), "run-3", run(set("b", "2")), "run-4", run(gone("b"))}, after(more, (*sediment.Store).Compact),
			[]string{"log-9", one + two, "manifest", manifest(10, 5, 9, 0)}, "f=6 g=7"},
		{"open with a torn log", with("log-9", one+"torn", "manifest", manifest(10, 5, 9, 3, 4)), sediment.Open,
			[]string{"log-10", one, "manifest", manifest(11, 5, 10, 3, 4), "run-3", runs[1], "run-4", runs[3]}, "b=4 f=6"},
	}
}

// wantThere: these files are there, whatever else is.
func wantThere(t *testing.T, d *disk.Disk, files []string) {
	t.Helper()
	for i := 0; i < len(files); i += 2 {
		if b, in := d.Peek(files[i]); !in || string(b) != files[i+1] {
			t.Errorf("%s has %q, %v, want %q", files[i], b, in, files[i+1])
		}
	}
}

// without a file.
func without(files []string, name string) []string {
	var l []string
	for i := 0; i < len(files); i += 2 {
		if files[i] != name {
			l = append(l, files[i], files[i+1])
		}
	}
	return l
}

// The power goes at each call, and takes all that is not sure: as long as the old manifest holds, all that it names is there; and when a new one is begun, all that it names is there, too.
func TestP7(t *testing.T) {
	for _, c := range changings() {
		for n := 0; ; n++ {
			d := laid(c.start...)
			d.Cut(n)
			_, e := c.call(d)
			_, begun := d.Peek("manifest.tmp")
			d.Crash()
			if e == api.OK {
				wantFiles(t, d, c.files...)
				break
			}
			m, _ := d.Peek("manifest")
			if string(m) == manifestOf(c.start) {
				wantThere(t, d, without(c.start, "log-9"))
				log, _ := d.Peek("log-9")
				if !strings.HasPrefix(string(log), logOf(c.start)) {
					t.Errorf("log-9 has %q", log)
				}
			} else if string(m) != manifestOf(c.files) {
				t.Errorf("the manifest is neither the old nor the new one: %q", m)
			}
			if begun || string(m) == manifestOf(c.files) {
				wantThere(t, d, without(c.files, "manifest"))
			}
			wantTold(t, c, tells(t, open(t, d)))
			if t.Failed() {
				t.Fatalf("%s, cut at %d", c.name, n)
			}
		}
	}
}

// wantTold: all, or all but what was written last and not made sure of.
func wantTold(t *testing.T, c changing, got string) {
	t.Helper()
	if got != c.tells && got != strings.TrimSuffix(c.tells, " g=7") {
		t.Errorf("told %q, want %q", got, c.tells)
	}
}

func manifestOf(files []string) string {
	for i := 0; i < len(files); i += 2 {
		if files[i] == "manifest" {
			return files[i+1]
		}
	}
	return ""
}

// logOf what was laid as log-9, without what is torn.
func logOf(files []string) string { return strings.TrimSuffix(files[1], "torn") }

// In what order the disk is asked: a manifest that is renamed is synced, and nothing is removed ahead of SyncDir.
func TestP7KeepsTheOld(t *testing.T) {
	for _, c := range changings() {
		seen := false
		for n := 0; ; n++ {
			d := laid(c.start...)
			d.Cut(n)
			_, e := c.call(d)
			m, _ := d.Peek("manifest")
			if string(m) == manifestOf(c.files) && !seen {
				// The first cut behind the rename: it is not made sure of, and all of both manifests' files are there.
				seen = true
				wantThere(t, d, without(without(c.start, "manifest"), "log-9"))
				wantThere(t, d, without(c.files, "manifest"))
				if _, in := d.Peek("log-9"); !in {
					t.Errorf("%s: the old log went ahead of the rename", c.name)
				}
			}
			if e == api.OK {
				break
			}
		}
		if !seen {
			t.Errorf("%s: no new manifest was seen", c.name)
		}
	}
}
