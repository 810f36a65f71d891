package sediment_test

import (
	"math"
	"strings"
	"testing"

	"sediment/api"
	"sediment/disk"
	"sediment/sediment"
)

// layered is a disk with a base, two runs and a log.
func layered() *disk.Disk {
	return laid(
		"manifest", manifest(10, 5, 9, 3, 8, 4),
		"run-3", run(set("a", "3"), gone("b"), set("c", "3"), set("d", "3"), set("e", "3"), set("h", "3")),
		"run-4", run(set("b", "4"), gone("c"), set("cc", "4"), set("f", "4")),
		"run-8", run(gone("a"), set("b", "8"), gone("f"), set("g", ""), set("i", "8")),
		"log-9", frameOf(6, set("a", "9"), gone("e"))+frameOf(7, set("d", "9"), gone("nothing"), set("j", "9")))
}

const layeredTells = "a=9 b=8 cc=4 d=9 g= h=3 i=8 j=9"

func TestP9Layers(t *testing.T) {
	d := layered()
	files, s := filesOf(d), open(t, d)
	wantFiles(t, d, files...)
	wantLook(t, s, api.Look{Batches: 7, Log: 9, Base: 3, Next: 10, Runs: []int{8, 4}})
	wantTells(t, s, layeredTells)
	wantGets(t, s, "", "c", "e", "f", "aa", "nothing", "\xff", strings.Repeat("c", 99))
	for _, c := range []struct {
		from, to string
		most     int
		want     string
	}{
		{"", "", 3, "a=9 b=8 cc=4"}, {"", "", 0, ""}, {"", "", 1, "a=9"}, {"", "", math.MaxInt, layeredTells},
		{"b", "d", 9, "b=8 cc=4"}, {"b", "d\x00", 9, "b=8 cc=4 d=9"}, {"c", "cc", 9, ""}, {"cc", "ccc", 9, "cc=4"}, {"e", "", 2, "g= h=3"}, {"e", "g", 9, ""},
		{"j", "", 9, "j=9"}, {"k", "", 9, ""}, {"d", "b", 9, ""}, {"", "a", 9, ""}, {"c", strings.Repeat("g", 99), 9, "cc=4 d=9 g="},
	} {
		l, e := s.Scan(c.from, c.to, c.most)
		if got := text(l); got != c.want || e != api.OK {
			t.Errorf("Scan(%q, %q, %d) = %q, %d, want %q", c.from, c.to, c.most, got, e, c.want)
		}
	}
	if l, e := s.Scan("", "", -1); len(l) != 0 || e != api.ErrArg {
		t.Errorf("Scan = %v, %d", l, e)
	}
	wantFiles(t, d, files...)
}

// Whichever layer has a key, it is hidden by what lies over it.
func TestP9Hides(t *testing.T) {
	kinds := []string{"nothing", "value", "gone"}
	put := func(kind, layer string) []api.Change {
		switch kind {
		case "value":
			return []api.Change{set("k", layer)}
		case "gone":
			return []api.Change{gone("k")}
		}
		return []api.Change{set("z", "")}
	}
	for _, base := range kinds {
		for _, older := range kinds {
			for _, newer := range kinds {
				for _, log := range kinds {
					d := laid("manifest", manifest(10, 5, 9, 8, 3, 4), "run-8", run(put(base, "base")...), "run-4", run(put(older, "older")...), "run-3", run(put(newer, "newer")...), "log-9", frameOf(6, put(log, "log")...))
					model := map[string]string{}
					for i, kind := range []string{base, older, newer, log} {
						apply(model, put(kind, []string{"base", "older", "newer", "log"}[i])...)
					}
					s := open(t, d)
					for _, call := range []func(*sediment.Store) api.Errno{(*sediment.Store).Sync, (*sediment.Store).Flush, (*sediment.Store).Compact} {
						wantErrno(t, call(s), api.OK)
						wantTells(t, s, told(model))
						wantGets(t, s, "k", "z")
						if got := meaning(t, d); got != told(model) {
							t.Errorf("the files mean %q, want %q", got, told(model))
						}
					}
				}
			}
		}
	}
}

// A read that fails: nothing is told, and the store is degraded, but can be read (P8, P9).
func TestP9ReadFails(t *testing.T) {
	for name, read := range map[string]func(*sediment.Store) (bool, api.Errno){
		"get": func(s *sediment.Store) (bool, api.Errno) {
			v, in, e := s.Get("h")
			return v == "3" && in, e
		},
		"get nothing": func(s *sediment.Store) (bool, api.Errno) {
			v, in, e := s.Get("x")
			return v == "" && !in, e
		},
		"scan": func(s *sediment.Store) (bool, api.Errno) {
			l, e := s.Scan("", "", 99)
			return text(l) == layeredTells, e
		},
	} {
		for n := 0; ; n++ {
			d := layered()
			s := open(t, d)
			before := calls(d)
			d.Fail(n)
			right, e := read(s)
			if calls(d)-before <= n {
				if !right || e != api.OK || n == 0 || s.Look().Degraded {
					t.Errorf("%s: %v, %d, %d calls", name, right, e, n)
				}
				break
			}
			wantErrno(t, e, api.ErrDisk)
			wantLook(t, s, api.Look{Batches: 7, Log: 9, Base: 3, Next: 10, Runs: []int{8, 4}, Degraded: true})
			files, changed := filesOf(d), wrote(d)
			wantErrno(t, s.Write(set("a", "1")), api.ErrDegraded)
			wantErrno(t, s.Sync(), api.ErrDegraded)
			wantErrno(t, s.Flush(), api.ErrDegraded)
			wantErrno(t, s.Compact(), api.ErrDegraded)
			wantTells(t, s, layeredTells)
			wantGets(t, s, "c", "e", "f")
			wantFiles(t, d, files...)
			if wrote(d) != changed {
				t.Errorf("%s: the disk was told to change", name)
			}
		}
	}
	d := layered()
	s := open(t, d)
	d.Cut(0)
	if v, in, e := s.Get("b"); v != "" || in || e != api.ErrDisk {
		t.Errorf("Get = %q, %v, %d", v, in, e)
	}
	if l, e := s.Scan("", "", 9); len(l) != 0 || e != api.ErrDisk {
		t.Errorf("Scan = %v, %d", l, e)
	}
	if l, e := s.Scan("", "", -1); len(l) != 0 || e != api.ErrArg {
		t.Errorf("Scan = %v, %d", l, e)
	}
	wantErrno(t, s.Close(), api.OK)
	if _, _, e := s.Get("b"); e != api.ErrClosed {
		t.Errorf("Get = %d", e)
	}
}

func TestP9LayersChangeNothing(t *testing.T) {
	d := layered()
	s := open(t, d)
	files, before := filesOf(d), wrote(d)
	s.Get("a")
	s.Get("x")
	s.Scan("", "", 9)
	s.Scan("b", "c", 1)
	s.Look()
	wantFiles(t, d, files...)
	if wrote(d) != before {
		t.Errorf("the disk was told to change")
	}
}

func TestP2LayersHandedOut(t *testing.T) {
	s := open(t, layered())
	l, _ := s.Scan("", "", 99)
	other, _ := s.Scan("", "", 99)
	l = l[:cap(l)]
	for i := range l {
		l[i] = api.Pair{Key: "mine"}
	}
	if text(other) != layeredTells {
		t.Errorf("two lists share memory: %q", text(other))
	}
	wantTells(t, s, layeredTells)
	runs := s.Look().Runs
	runs = append(runs[:1], 77)
	runs[0] = 78
	wantLook(t, s, api.Look{Batches: 7, Log: 9, Base: 3, Next: 10, Runs: []int{8, 4}})
}

// wrongRuns: files that are no run.
func wrongRuns() map[string]string {
	entries := []api.Change{set("a", "1"), gone("b"), set("c", "3"), set("d", "4"), set("e", "5")}
	good := run(entries...)
	begin := len(good) - 4 - 8 - 2 - 6 - 6
	block, next := good[:begin-8-6], good[begin-8-6:begin]
	l := map[string]string{
		"empty":                "",
		"a byte":               "x",
		"a log":                frameOf(1, set("a", "1")),
		"a byte behind":        good + "\x00",
		"a byte ahead":         "\x00" + good,
		"two runs":             good + good,
		"without entries":      run(),
		"falling":              run(set("b", "1"), set("a", "2")),
		"twice":                run(set("a", "1"), set("a", "2")),
		"falling over blocks":  run(set("b", "1"), set("c", "1"), set("d", "1"), set("e", "1"), set("a", "2")),
		"twice over blocks":    run(set("a", "1"), set("b", "1"), set("c", "1"), set("d", "1"), gone("d")),
		"no key":               run(set("", "1")),
		"long key":             run(set(strings.Repeat("k", 17), "1")),
		"long value":           run(set("a", strings.Repeat("v", 41))),
		"without the footer":   good[:begin],
		"without its place":    good[:len(good)-4],
		"the footer elsewhere": good[:len(good)-4] + number(begin+1, 4),
		"the footer at 0":      good[:len(good)-4] + number(0, 4),
		"the footer far off":   good[:len(good)-4] + "\xff\xff\xff\xff",
		"another first key":    block + next + frame("\x00\x02"+number(0, 4)+"\x01a"+number(len(block), 4)+"\x01d") + number(begin, 4),
		"another place":        block + next + frame("\x00\x02"+number(0, 4)+"\x01a"+number(len(block)-1, 4)+"\x01e") + number(begin, 4),
		"one block told":       block + next + frame("\x00\x01"+number(0, 4)+"\x01a") + number(begin, 4),
		"three blocks told":    block + next + frame("\x00\x03"+number(0, 4)+"\x01a"+number(len(block), 4)+"\x01e"+number(begin, 4)+"\x01f") + number(begin, 4),
		"more in the footer":   block + next + frame("\x00\x02"+number(0, 4)+"\x01a"+number(len(block), 4)+"\x01e\x00") + number(begin, 4),
		"not full":             next + block + frame("\x00\x02"+number(0, 4)+"\x01e"+number(len(next), 4)+"\x01a") + number(begin, 4),
	}
	short, more := frame("\x02"+entry(set("a", "1"))+entry(set("b", "1"))), frame("\x01"+entry(set("c", "1")))
	l["two blocks, the first not full"] = short + more + frame("\x00\x02"+number(0, 4)+"\x01a"+number(len(short), 4)+"\x01c") + number(len(short+more), 4)
	for k := range len(good) {
		l["cut to "+number(k, 4)] = good[:k]
		l["bent at "+number(k, 4)] = good[:k] + string([]byte{good[k] ^ 0x10}) + good[k+1:]
		l["low bit bent at "+number(k, 4)] = good[:k] + string([]byte{good[k] ^ 1}) + good[k+1:]
	}
	return l
}

func TestP3WrongRuns(t *testing.T) {
	good := run(set("b", "1"), set("c", "1"), set("d", "1"), set("e", "1"), set("f", "1"))
	for name, wrong := range wrongRuns() {
		for _, m := range []string{manifest(10, 5, 9, 3), manifest(10, 5, 9, 0, 3), manifest(10, 5, 9, 4, 3), manifest(10, 5, 9, 3, 4), manifest(10, 5, 9, 0, 4, 3), manifest(10, 5, 9, 0, 3, 4)} {
			d := laid("log-9", "torn", "manifest", m, "manifest.tmp", "x", "run-3", wrong, "run-4", good)
			before := wrote(d)
			refused(t, d, api.ErrForm)
			wantFiles(t, d, "log-9", "torn", "manifest", m, "manifest.tmp", "x", "run-3", wrong, "run-4", good)
			if wrote(d) != before {
				t.Errorf("the disk was told to change")
			}
			if t.Failed() {
				t.Fatalf("%q: %q", name, wrong)
			}
		}
		// One that is not named is no matter.
		d := laid("log-9", "", "manifest", manifest(10, 5, 9, 4), "run-3", wrong, "run-4", good)
		wantTells(t, open(t, d), "b=1 c=1 d=1 e=1 f=1")
		wantFiles(t, d, "log-9", "", "manifest", manifest(10, 5, 9, 4), "run-4", good)
	}
}

func TestP3RunsAndNumbers(t *testing.T) {
	good := run(set("a", "1"))
	for name, m := range map[string]string{
		"a run is missing":       manifest(10, 5, 9, 0, 5),
		"one of many is missing": manifest(10, 5, 9, 3, 4, 5),
		"the base is missing":    manifest(10, 5, 9, 5, 3),
		"the base twice":         manifest(10, 5, 9, 3, 3),
		"a run twice":            manifest(10, 5, 9, 0, 3, 4, 3),
		"a run is the log":       manifest(10, 5, 9, 3, 4, 9),
		"the base is the log":    manifest(10, 5, 9, 9, 3),
		"a run not below next":   manifest(10, 5, 9, 3, 4, 10),
		"the base not below it":  manifest(10, 5, 9, 10, 3, 4),
		"a run 0":                manifest(10, 5, 9, 3, 0),
		"the log is missing":     manifest(10, 5, 8, 3, 4),
	} {
		d := laid("log-0", "", "log-9", "", "manifest", m, "run-0", good, "run-10", good, "run-3", good, "run-4", good, "run-9", good)
		files := filesOf(d)
		refused(t, d, api.ErrForm)
		wantFiles(t, d, files...)
		if t.Failed() {
			t.Fatal(name)
		}
	}
	// Numbers need not rise in any way.
	d := laid("log-2", "", "manifest", manifest(10, 5, 2, 9, 3, 8, 1), "run-1", good, "run-3", run(set("b", "3")), "run-8", run(set("a", "8")), "run-9", run(set("a", "9"), set("b", "9"), set("c", "9")))
	files := filesOf(d)
	s := open(t, d)
	wantFiles(t, d, files...)
	wantTells(t, s, "a=8 b=3 c=9")
	wantLook(t, s, api.Look{Batches: 5, Log: 2, Base: 9, Next: 10, Runs: []int{3, 8, 1}})
	// A wrong run is told ahead of a number that is used up.
	d = laid("log-9", "torn", "manifest", manifest(api.MaxNumber, 5, 9, 0, 3), "run-3", good+"x")
	refused(t, d, api.ErrForm)
	d.Lay("run-3", []byte(good))
	refused(t, d, api.ErrFull)
	wantFiles(t, d, "log-9", "torn", "manifest", manifest(api.MaxNumber, 5, 9, 0, 3), "run-3", good)
}

func TestP4RunsAndOthers(t *testing.T) {
	d := layered()
	files := filesOf(d)
	for _, name := range []string{"run-2", "run-10", "run-09", "run-", "run", "log-3", "log-8", "manifest.tmp", "manifest-3", "x"} {
		d.Lay(name, []byte(run(set("k", "k"))))
	}
	s := open(t, d)
	wantFiles(t, d, files...)
	wantTells(t, s, layeredTells)
	d.Crash()
	wantFiles(t, d, files...)

	log, _ := d.Peek("log-9")
	d.Lay("log-9", append(log, "torn"...))
	d.Lay("log-10", []byte("somebody's"))
	s = open(t, d)
	wantTells(t, s, layeredTells)
	wantLook(t, s, api.Look{Batches: 7, Log: 10, Base: 3, Next: 11, Runs: []int{8, 4}})
	d.Crash()
	wantFiles(t, d, "log-10", string(log), "manifest", manifest(11, 5, 10, 3, 8, 4), "run-3", files[5], "run-4", files[7], "run-8", files[9])
}

// An Open makes sure of runs, too: who laid them may have stopped ahead of that.
func TestP4MakesSureOfRuns(t *testing.T) {
	for _, tail := range []string{"", "torn"} {
		d := disk.New()
		files := filesOf(layered())
		for i := 0; i < len(files); i += 2 {
			d.Create(files[i])
			d.Append(files[i], []byte(files[i+1]))
		}
		d.Append("log-9", []byte(tail))
		open(t, d)
		d.Crash()
		wantTells(t, open(t, d), layeredTells)
	}
}

// An Open in which a call of the disk fails takes away nothing that the manifest names.
func TestP4RunsFail(t *testing.T) {
	for _, tail := range []string{"", "torn"} {
		for n := 0; ; n++ {
			d := layered()
			log, _ := d.Peek("log-9")
			d.Lay("log-9", append(log, tail...))
			d.Lay("other", nil)
			files := filesOf(d)
			d.Fail(n)
			before := calls(d)
			s, e := sediment.Open(d)
			if calls(d)-before <= n {
				wantErrno(t, e, api.OK)
				break
			}
			if s != nil || e != api.ErrDisk {
				t.Fatalf("call %d failed: Open = %v, %d", n, s, e)
			}
			m, _ := d.Peek("manifest")
			if string(m) == manifestOf(files) {
				wantThere(t, d, without(files, "other"))
			} else {
				wantThere(t, d, without(without(without(files, "other"), "manifest"), "log-9"))
				wantThere(t, d, []string{"manifest", manifest(11, 5, 10, 3, 8, 4), "log-10", string(log)})
			}
			wantTells(t, open(t, d), layeredTells)
		}
	}
}
