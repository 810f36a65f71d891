package sediment_test

import (
	"strconv"
	"strings"
	"testing"

	"sediment/api"
	"sediment/disk"
	"sediment/sediment"
)

// The disk is made to fail at each of its calls in turn, in each call of a store (P8, P12).

// deed: a call of a store, in which the disk fails.
type deed struct {
	name  string
	start []string                                  // the files of the disk
	ahead []api.Change                              // written ahead of it, and not made sure of
	do    func(*sediment.Store) (string, api.Errno) // and what is answered beside the number
	says  string                                    // that answer, if nothing fails
	tells string                                    // what the store tells ahead of it, and behind it, if it fails
	then  string                                    // and behind it, if nothing fails
}

// plain is a call that answers a number alone.
func plain(call func(*sediment.Store) api.Errno) func(*sediment.Store) (string, api.Errno) {
	return func(s *sediment.Store) (string, api.Errno) { return "", call(s) }
}

func writing(l ...api.Change) func(*sediment.Store) (string, api.Errno) {
	return func(s *sediment.Store) (string, api.Errno) { return "", s.Write(l...) }
}

func getting(key string) func(*sediment.Store) (string, api.Errno) {
	return func(s *sediment.Store) (string, api.Errno) {
		v, in, e := s.Get(key)
		if in {
			v = "there: " + v
		}
		return v, e
	}
}

func scanning(from, to string, most int) func(*sediment.Store) (string, api.Errno) {
	return func(s *sediment.Store) (string, api.Errno) {
		l, e := s.Scan(from, to, most)
		return text(l), e
	}
}

// deeds that do not let anything settle.
func deeds() []deed {
	layers, all := filesOf(layered()), layeredTells
	alone := []string{"log-1", frameOf(1, set("a", "1")), "manifest", manifest(2, 0, 1, 0)}
	same := func(name, says string, do func(*sediment.Store) (string, api.Errno)) deed {
		return deed{name, layers, nil, do, says, all, all}
	}
	more := []api.Change{set("c", "9"), gone("i")}
	return []deed{
		{"write", alone, nil, writing(set("a", "2"), set("b", "2")), "", "a=1", "a=2 b=2"},
		{"write of what is gone", alone, nil, writing(gone("a")), "", "a=1", ""},
		{"write behind another", alone, more, writing(set("c", ""), set("i", strings.Repeat("i", 40))), "", "a=1 c=9", "a=1 c= i=" + strings.Repeat("i", 40)},
		{"write over layers", layers, more, writing(gone("a"), gone("b"), set("k", "")), "", "a=9 b=8 c=9 cc=4 d=9 g= h=3 j=9", "c=9 cc=4 d=9 g= h=3 j=9 k="},
		{"sync", alone, more, plain((*sediment.Store).Sync), "", "a=1 c=9", "a=1 c=9"},
		{"sync over layers", layers, nil, plain((*sediment.Store).Sync), "", all, all},
		same("get from the log", "there: 9", getting("a")),
		same("get what is gone in the log", "", getting("e")),
		same("get from the newest run", "there: 8", getting("i")),
		same("get what is gone in a run", "", getting("f")),
		same("get from the oldest run", "there: 4", getting("cc")),
		same("get from the base", "there: 3", getting("h")),
		same("get nothing", "", getting("x")),
		same("scan all", all, scanning("", "", 99)),
		same("scan a part", "cc=4 d=9", scanning("c", "g", 9)),
		same("scan the first", "a=9", scanning("", "", 1)),
		same("scan the last", "j=9", scanning("j", "", 9)),
		{"scan what was just written", layers, more, scanning("c", "d", 9), "c=9 cc=4", "a=9 b=8 c=9 cc=4 d=9 g= h=3 j=9", "a=9 b=8 c=9 cc=4 d=9 g= h=3 j=9"},
	}
}

// settlings: deeds that let something settle, which changes nothing that is told.
func settlings() []deed {
	layers, all := filesOf(layered()), layeredTells
	alone := []string{"log-1", frameOf(1, set("a", "1"), set("b", "1"), set("c", "1"), set("d", "1"), set("e", "1")), "manifest", manifest(2, 0, 1, 0)}
	none := []string{"log-9", frameOf(6, set("z", "")), "manifest", manifest(10, 5, 9, 4, 3), "run-3", run(gone("a")), "run-4", run(set("a", "1"))}
	runs := []string{"log-9", "", "manifest", manifest(10, 5, 9, 0, 3, 4), "run-3", run(set("a", "3"), gone("b")), "run-4", run(set("a", "1"), set("b", "1"), set("c", "1"))}
	flush, compact := plain((*sediment.Store).Flush), plain((*sediment.Store).Compact)
	same := func(name string, start []string, do func(*sediment.Store) (string, api.Errno), tells string, ahead ...api.Change) deed {
		return deed{name, start, ahead, do, "", tells, tells}
	}
	return []deed{
		same("flush", alone, flush, "a=1 b=1 c=1 d=1 e=1"),
		same("flush of what was just written", alone, flush, "b=1 c=1 d=1 e=1 f=2", gone("a"), set("f", "2")),
		same("flush over layers", layers, flush, all),
		same("flush over layers of what was just written", layers, flush, "a=0 cc=4 d=9 g= h=3 i=8 j=9", set("a", "0"), gone("b")),
		same("compact", layers, compact, all),
		same("compact below what was just written", layers, compact, "a=0 cc=4 d=9 g= h=3 i=8 j=9", set("a", "0"), gone("b")),
		same("compact without a base", runs, compact, "a=3 c=1"),
		same("compact that leaves nothing", none, compact, "z="),
		same("compact that leaves nothing, below what was just written", none, compact, "a=2 z=", set("a", "2")),
	}
}

func TestP8Deeds(t *testing.T) { failAll(t, deeds()) }

func TestP12Fails(t *testing.T) { failAll(t, settlings()) }

// failAll calls of the disk, one by one: that one alone, or all from that one on.
func failAll(t *testing.T, l []deed) {
	for _, x := range l {
		for _, lasting := range []bool{false, true} {
			n := 0
			for x.fail(t, n, lasting) && !t.Failed() {
				n++
			}
			if t.Failed() {
				t.Fatalf("%s: call %d of the disk failed, all behind it too: %v", x.name, n, lasting)
			}
		}
	}
}

// fail lets the call number n of the disk fail; false: there were not so many.
func (x deed) fail(t *testing.T, n int, lasting bool) bool {
	t.Helper()
	d := laid(x.start...)
	s := open(t, d)
	if x.ahead != nil {
		write(t, s, x.ahead...)
	}
	look, before := s.Look(), calls(d)
	failAt(d, n, lasting)
	says, e := x.do(s)
	if calls(d)-before <= n {
		if says != x.says || e != api.OK {
			t.Errorf("answered %q, %d", says, e)
		}
		d.Fail(-1)
		d.Cut(-1)
		wantTells(t, s, x.then)
		if got := meaning(t, d); got != x.then || s.Look().Degraded {
			t.Errorf("the files mean %q, told is %q; Look = %+v", got, x.then, s.Look())
		}
		return false
	}
	if says != "" || e != api.ErrDisk {
		t.Errorf("answered %q, %d", says, e)
	}
	if calls(d)-before != n+1 {
		t.Errorf("the disk was asked again when it had failed")
	}
	if m, _ := d.Peek("manifest"); string(m) == manifestOf(x.start) {
		look.Degraded = true
		wantLook(t, s, look)
	}
	wantNoLies(t, s, x.tells)
	d.Fail(-1)
	d.Cut(-1)
	wantDegraded(t, d, s, x.tells)
	wantLeft(t, d, x.tells)
	return true
}

func failAt(d *disk.Disk, n int, lasting bool) {
	if lasting {
		d.Cut(n)
	} else {
		d.Fail(n)
	}
}

// wantNoLies: on a disk that may fail still, what is told at all is right.
func wantNoLies(t *testing.T, s *sediment.Store, tells string) {
	t.Helper()
	l, e := s.Scan("", "", 99)
	if !(e == api.OK && text(l) == tells) && !(e == api.ErrDisk && len(l) == 0) {
		t.Errorf("Scan = %q, %d, want %q", text(l), e, tells)
	}
	for _, key := range []string{"a", "b", "c", "e", "f", "h", "k", "x"} {
		v, in, e := s.Get(key)
		right := strings.Contains(" "+tells+" ", " "+key+"="+v+" ") == in && (in || v == "" && !strings.Contains(" "+tells, " "+key+"="))
		if !(e == api.OK && right) && !(e == api.ErrDisk && v == "" && !in) {
			t.Errorf("Get(%q) = %q, %v, %d; Scan tells %q", key, v, in, e, tells)
		}
	}
}

// wantDegraded: the store tells what it told, on a disk that does not fail any more; but whatever is asked of it, it does not change the disk.
func wantDegraded(t *testing.T, d *disk.Disk, s *sediment.Store, tells string) {
	t.Helper()
	look, files, before, changed := s.Look(), filesOf(d), calls(d), wrote(d)
	if !look.Degraded || look.Closed {
		t.Errorf("Look = %+v", look)
	}
	for _, batch := range [][]api.Change{{set("a", "new")}, {gone("a")}, {}, {set("", "")}} {
		wantErrno(t, s.Write(batch...), api.ErrDegraded)
	}
	wantErrno(t, s.Sync(), api.ErrDegraded)
	wantErrno(t, s.Flush(), api.ErrDegraded)
	wantErrno(t, s.Compact(), api.ErrDegraded)
	if calls(d) != before {
		t.Errorf("the disk was asked")
	}
	wantTells(t, s, tells)
	wantGets(t, s, "", "a", "b", "c", "e", "f", "k", "x")
	if l, e := s.Scan("", "", -1); len(l) != 0 || e != api.ErrArg {
		t.Errorf("Scan = %v, %d", l, e)
	}
	wantLook(t, s, look)
	wantErrno(t, s.Close(), api.OK)
	look.Closed = true
	wantLook(t, s, look)
	wantErrno(t, s.Write(set("a", "new")), api.ErrClosed)
	wantErrno(t, s.Sync(), api.ErrClosed)
	wantErrno(t, s.Flush(), api.ErrClosed)
	wantErrno(t, s.Compact(), api.ErrClosed)
	wantErrno(t, s.Close(), api.ErrClosed)
	wantFiles(t, d, files...)
	if wrote(d) != changed {
		t.Errorf("the disk was told to change")
	}
}

// wantLeft: what is left on the disk means just this, to the next Open, too; and the store goes on from there.
func wantLeft(t *testing.T, d *disk.Disk, tells string) {
	t.Helper()
	if got, _, _ := means(t, d); got != tells {
		t.Errorf("the files that are left mean %q, told was %q", got, tells)
	}
	s := open(t, d)
	wantTells(t, s, tells)
	if got := meaning(t, d); got != tells || s.Look().Degraded {
		t.Errorf("behind an Open the files mean %q, told was %q; Look = %+v", got, tells, s.Look())
	}
	write(t, s, set("\xff", "more"))
	wantErrno(t, s.Sync(), api.OK)
	wantErrno(t, s.Flush(), api.OK)
	wantErrno(t, s.Compact(), api.OK)
	tells = strings.TrimPrefix(tells+" \xff=more", " ")
	wantTells(t, s, tells)
	wantTells(t, open(t, d), tells)
}

// A Write that fails leaves the first half of its frame, which no Open takes for a batch.
func TestP8WriteLeavesHalf(t *testing.T) {
	for n := range api.MaxBatch {
		var batch []api.Change
		for i := range n + 1 {
			batch = append(batch, set("b"+strconv.Itoa(i), strings.Repeat("v", 7*i%41)))
		}
		one, half := frameOf(1, set("a", "1")), frameOf(2, batch...)
		half = half[:len(half)/2]
		d := disk.New()
		s := open(t, d)
		write(t, s, set("a", "1"))
		d.Fail(0)
		wantErrno(t, s.Write(batch...), api.ErrDisk)
		wantFiles(t, d, "log-1", one+half, "manifest", manifest(2, 0, 1, 0))
		wantTells(t, s, "a=1")
		wantLook(t, s, api.Look{Batches: 1, Log: 1, Next: 2, Degraded: true})
		s = open(t, d)
		wantTells(t, s, "a=1")
		wantFiles(t, d, "log-2", one, "manifest", manifest(3, 0, 2, 0))
		write(t, s, batch...) // it has the number that the one that failed would have had
		wantFiles(t, d, "log-2", one+frameOf(2, batch...), "manifest", manifest(3, 0, 2, 0))
	}
}

// openings: disks to be opened, and what is told then.
func openings() map[string]struct {
	start []string
	tells string
} {
	layers := filesOf(layered())
	log := layers[1]
	rest := without(layers, "log-9")
	others := []string{"log-1", "old", "log-10", "of an Open that failed", "manifest.tmp", manifest(11, 5, 10, 3, 8, 4), "run-10", "torn", "x", ""}
	with := func(log string, more ...string) []string {
		return append(append([]string{"log-9", log}, rest...), more...)
	}
	one, two := frameOf(6, set("a", "9"), gone("e")), strings.TrimPrefix(log, frameOf(6, set("a", "9"), gone("e")))
	return map[string]struct {
		start []string
		tells string
	}{
		"an empty disk":                      {nil, ""},
		"files without a manifest":           {others, ""},
		"a store":                            {layers, layeredTells},
		"a store among others":               {with(log, others...), layeredTells},
		"a torn log":                         {with(log + "torn"), layeredTells},
		"a torn log among others":            {with(log+"torn", others...), layeredTells},
		"a log whose last batch is torn":     {with(one+two[:len(two)/2], others...), "a=9 b=8 cc=4 d=3 g= h=3 i=8"},
		"a log whose first batch is lost":    {with(strings.Repeat("\x00", len(one))+two, others...), "b=8 cc=4 d=3 e=3 g= h=3 i=8"},
		"a log of which nothing is there":    {with("", others...), "b=8 cc=4 d=3 e=3 g= h=3 i=8"},
		"a log alone":                        {[]string{"log-1", frameOf(1, set("a", "1")), "manifest", manifest(2, 0, 1, 0)}, "a=1"},
		"a log alone, torn":                  {[]string{"log-1", frameOf(1, set("a", "1")) + "torn", "manifest", manifest(2, 0, 1, 0)}, "a=1"},
		"a store that an Open just began in": {[]string{"log-1", "", "manifest", manifest(2, 0, 1, 0), "manifest.tmp", ""}, ""},
	}
}

// An Open that fails gives no store, takes away nothing that the manifest names, and the next one comes to the same.
func TestP8Open(t *testing.T) {
	for name, x := range openings() {
		for _, lasting := range []bool{false, true} {
			for n := 0; ; n++ {
				d := laid(x.start...)
				failAt(d, n, lasting)
				s, e := sediment.Open(d)
				if calls(d) <= n {
					if s == nil || e != api.OK {
						t.Errorf("Open = %v, %d", s, e)
					}
					break
				}
				if s != nil || e != api.ErrDisk {
					t.Errorf("Open = %v, %d", s, e)
				}
				if calls(d) != n+1 {
					t.Errorf("the disk was asked again when it had failed")
				}
				d.Fail(-1)
				d.Cut(-1)
				if _, in := d.Peek("manifest"); in {
					wantLeft(t, d, x.tells)
				} else if manifestOf(x.start) != "" {
					t.Errorf("the manifest went")
				} else {
					wantTells(t, open(t, d), x.tells)
					meaning(t, d)
				}
				if t.Failed() {
					t.Fatalf("%s: call %d of the disk failed, all behind it too: %v", name, n, lasting)
				}
			}
		}
	}
}

// The disk fails in a call, and in the Open behind it, too: the Open behind that one comes to the same.
func TestP8Again(t *testing.T) {
	for _, x := range append(deeds(), settlings()...) {
		for n := 0; x.failTwice(t, n, 0); n++ {
			for again := 1; x.failTwice(t, n, again); again++ {
			}
		}
	}
}

// failTwice lets the call number n of the disk fail, and that of number again in the Open behind it; false: there were not so many.
func (x deed) failTwice(t *testing.T, n, again int) bool {
	t.Helper()
	d := laid(x.start...)
	s := open(t, d)
	if x.ahead != nil {
		write(t, s, x.ahead...)
	}
	before := calls(d)
	d.Fail(n)
	x.do(s)
	if calls(d)-before <= n {
		return false
	}
	before = calls(d)
	d.Fail(again)
	_, e := sediment.Open(d)
	failed := calls(d)-before > again
	if failed != (e == api.ErrDisk) || !failed && e != api.OK {
		t.Errorf("Open = %d", e)
	}
	d.Fail(-1)
	wantTells(t, open(t, d), x.tells)
	meaning(t, d)
	if t.Failed() {
		t.Fatalf("%s: call %d failed, and call %d of the Open behind it", x.name, n, again)
	}
	return failed
}
