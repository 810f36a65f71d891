package sediment_test

import (
	"strconv"
	"strings"
	"testing"

	"sediment/api"
	"sediment/disk"
	"sediment/sediment"
)

const zero8 = "\x00\x00\x00\x00\x00\x00\x00\x00"

func TestP3BeginsEmpty(t *testing.T) { // example 1
	for _, d := range []*disk.Disk{
		disk.New(),
		laid("log-1", frameOf(1, set("a", "1")), "manifest.tmp", manifest(2, 0, 1, 0), "run-7", "x", "Manifest", "y"),
		laid("junk", strings.Repeat("j", api.MaxDisk)),
		laid("", "a file without a name"),
	} {
		s := open(t, d)
		wantFiles(t, d, "log-1", "", "manifest", manifest(2, 0, 1, 0))
		wantLook(t, s, api.Look{Log: 1, Next: 2})
		wantTells(t, s, "")
		d.Crash()
		wantFiles(t, d, "log-1", "", "manifest", manifest(2, 0, 1, 0))
	}
}

func TestP3Form(t *testing.T) {
	good := manifest(10, 5, 9, 0)
	for name, m := range map[string]string{
		"empty":                 "",
		"cut":                   good[:len(good)-1],
		"a byte behind":         good + "\x00",
		"two frames":            good + good,
		"bytes 0":               strings.Repeat("\x00", len(good)),
		"sum":                   good[:7] + "?" + good[8:],
		"empty frame":           frame(""),
		"short held":            frame(good[8 : len(good)-1]),
		"long held":             frame(good[8:] + "\x00"),
		"more runs than told":   frame(good[8:] + number(3, 8)),
		"fewer runs than told":  frame(good[8:40] + "\x00\x02" + number(3, 8)),
		"next above most":       manifest(api.MaxNumber+1, 5, 9, 0),
		"next far above":        manifest(1<<32+10, 5, 9, 0),
		"next below 0":          manifest(-1, 5, 9, 0),
		"last above most":       manifest(10, api.MaxBatches+1, 9, 0),
		"last far above":        manifest(10, 1<<40, 9, 0),
		"log 0":                 manifest(10, 5, 0, 0),
		"log not below next":    manifest(9, 5, 9, 0),
		"log far above":         manifest(10, 5, 1<<32+9, 0),
		"log missing":           manifest(10, 5, 8, 0),
		"base is the log":       manifest(10, 5, 9, 9),
		"base not below next":   manifest(10, 5, 9, 10),
		"base missing":          manifest(10, 5, 9, 3),
		"run 0":                 manifest(10, 5, 9, 0, 0),
		"run is the log":        manifest(10, 5, 9, 0, 9),
		"run not below next":    manifest(10, 5, 9, 0, 10),
		"run twice":             manifest(10, 5, 9, 0, 3, 3),
		"run is the base":       manifest(10, 5, 9, 3, 3),
		"run missing":           manifest(10, 5, 9, 0, 3),
		"no number is below it": manifest(0, 0, 0, 0),
	} {
		t.Run(name, func(t *testing.T) {
			d := laid("manifest", m, "manifest.tmp", good, "log-0", "", "log-9", "torn", "other", "y")
			before := wrote(d)
			refused(t, d, api.ErrForm)
			wantFiles(t, d, "log-0", "", "log-9", "torn", "manifest", m, "manifest.tmp", good, "other", "y")
			if wrote(d) != before {
				t.Errorf("the disk was told to change")
			}
		})
	}
}

func TestP3FullAndHighest(t *testing.T) {
	top := manifest(api.MaxNumber, api.MaxBatches-1, api.MaxNumber-1, 0)
	last := frameOf(api.MaxBatches, set("a", "1"))
	beyond := frameOf(api.MaxBatches+1, set("a", "2"))
	log := "log-" + strconv.Itoa(api.MaxNumber-1)

	d := laid("manifest", top, log, last+beyond, "other", "")
	before := wrote(d)
	refused(t, d, api.ErrFull)
	wantFiles(t, d, log, last+beyond, "manifest", top, "other", "")
	if wrote(d) != before {
		t.Errorf("the disk was told to change")
	}

	d = laid("manifest", top, log, last, "other", "")
	s := open(t, d)
	wantFiles(t, d, log, last, "manifest", top)
	wantLook(t, s, api.Look{Batches: api.MaxBatches, Log: api.MaxNumber - 1, Next: api.MaxNumber})
	wantTells(t, s, "a=1")

	// One number is left: the new log takes it.
	d = laid("manifest", manifest(api.MaxNumber-1, api.MaxBatches, 3, 0), "log-3", beyond)
	s = open(t, d)
	wantFiles(t, d, log, "", "manifest", manifest(api.MaxNumber, api.MaxBatches, api.MaxNumber-1, 0))
	wantLook(t, s, api.Look{Batches: api.MaxBatches, Log: api.MaxNumber - 1, Next: api.MaxNumber})
	refusedAgain := laid("manifest", manifest(api.MaxNumber, 0, 3, 0), "log-3", "x")
	refused(t, refusedAgain, api.ErrFull)
}

func TestP3FormAheadOfFull(t *testing.T) {
	d := laid("manifest", manifest(api.MaxNumber, 5, 9, 3), "log-9", "x")
	refused(t, d, api.ErrForm)
}

// logs behind the batch 5, and how many of the three batches are meant by them.
func logs() (one, two, three string, l []struct {
	log  string
	good int
}) {
	one, two, three = frameOf(6, set("a", "1")), frameOf(7, set("b", "2"), gone("a")), frameOf(8, set("c", "3"), set("c", ""))
	add := func(good int, log string) {
		l = append(l, struct {
			log  string
			good int
		}{log, good})
	}
	head := number(7, 8)
	add(0, "")
	add(1, one)
	add(2, one+two)
	add(3, one+two+three)
	add(0, "\x00")
	add(0, zero8)
	add(0, strings.Repeat("\x00", len(one))+two) // example 4
	add(0, two)
	add(0, frameOf(5, set("a", "1")))
	add(0, frameOf(0, set("a", "1")))
	add(0, one[:7]+"?"+one[8:])
	add(1, one+three)
	add(1, one+one)
	add(1, one+strings.Repeat("\x00", len(two))+three)
	add(1, one+frame("")+two)
	add(1, one+"\x7f\xff\xff\xff"+two[4:])
	add(1, one+"\xff\xff\xff\xff"+two[4:])
	add(1, one+frame(head))
	add(1, one+frame(head+"\x00"))
	add(1, one+frame(head+"\x00")+two)
	add(1, one+frame(head+"\x01"+entry(set("b", "2"))+"x"))
	add(1, one+frame(head+"\x02"+entry(set("b", "2"))))
	add(1, one+frame(head+"\x01"+entry(set("b", "2"))+entry(set("c", "3"))))
	add(1, one+frame(head+"\x09"+strings.Repeat(entry(set("b", "2")), 9)))
	add(1, one+frame(head+"\x01\x00\x01b\x00"))
	add(1, one+frame(head+"\x01\x03\x01b\x00"))
	add(1, one+frame(head+"\x01\x02\x01b\x00"))
	add(1, one+frame(head+"\x01"+entry(set("", "2"))))
	add(1, one+frame(head+"\x01"+entry(gone(""))))
	add(1, one+frame(head+"\x01"+entry(set(strings.Repeat("k", 17), ""))))
	add(1, one+frame(head+"\x01"+entry(set("b", strings.Repeat("v", 41)))))
	add(1, one+frame(head+"\x01\x01\x05b"))
	add(1, one+frame(head+"\x01\x01\x01b\x05v"))
	add(1, one+frameOf(1<<32+7, set("b", "2")))
	for n := 1; n < len(two); n++ {
		add(1, one+two[:n])
	}
	add(2, one+two+"\x00")
	add(3, one+two+three+one)
	add(3, one+two+three+zero8)
	return one, two, three, l
}

func TestP4Log(t *testing.T) {
	one, two, three, l := logs()
	for i, c := range l {
		d := laid("manifest", manifest(10, 5, 9, 0), "log-9", c.log, "log-3", "old", "log-10", "older", "manifest.tmp", "x", "run-3", "", "log-09", "y")
		s := open(t, d)
		right := []string{"", one, one + two, one + two + three}[c.good]
		wantTells(t, s, []string{"", "a=1", "b=2", "b=2 c="}[c.good])
		want := []string{"log-9", c.log, "manifest", manifest(10, 5, 9, 0)}
		look := api.Look{Batches: 5 + c.good, Log: 9, Next: 10}
		if right != c.log {
			want = []string{"log-10", right, "manifest", manifest(11, 5, 10, 0)}
			look.Log, look.Next = 10, 11
		}
		wantFiles(t, d, want...)
		wantLook(t, s, look)
		d.Crash()
		wantFiles(t, d, want...)
		s = open(t, d)
		wantFiles(t, d, want...)
		wantLook(t, s, look)
		if t.Failed() {
			t.Fatalf("log %d: %q", i, c.log)
		}
	}
}

func TestP4HighestBatchInLog(t *testing.T) {
	last, beyond := frameOf(api.MaxBatches, set("a", "1")), frameOf(api.MaxBatches+1, set("b", "2"))
	d := laid("manifest", manifest(10, api.MaxBatches-1, 9, 0), "log-9", last+beyond)
	s := open(t, d)
	wantTells(t, s, "a=1")
	wantFiles(t, d, "log-10", last, "manifest", manifest(11, api.MaxBatches-1, 10, 0))
	wantErrno(t, s.Write(set("b", "2")), api.ErrFull)
}

// An Open makes sure of what was found, also where no power went ahead of it.
func TestP4MakesSure(t *testing.T) {
	d := disk.New()
	s := open(t, d)
	write(t, s, set("a", "1"))
	write(t, s, set("b", "2"))
	d.Create("other")
	open(t, d)
	d.Crash()
	wantFiles(t, d, "log-1", frameOf(1, set("a", "1"))+frameOf(2, set("b", "2")), "manifest", manifest(2, 0, 1, 0))

	d = disk.New() // somebody wrote the files, and made sure of nothing
	for _, f := range [][2]string{{"manifest", manifest(7, 3, 4, 0)}, {"log-4", frameOf(4, set("a", "1"))}} {
		d.Create(f[0])
		d.Append(f[0], []byte(f[1]))
	}
	open(t, d)
	d.Crash()
	wantTells(t, open(t, d), "a=1")
}

// An Open in which any call of the disk fails takes nothing away, and the next one comes to the same.
func TestP4Fails(t *testing.T) {
	one := frameOf(6, set("a", "1"))
	for _, log := range []string{"", one, one + "torn", one + one} {
		for _, lasting := range []bool{false, true} {
			for n := 0; ; n++ {
				d := laid("manifest", manifest(10, 5, 9, 0), "log-9", log, "other", "x", "manifest.tmp", "y")
				if lasting {
					d.Cut(n)
				} else {
					d.Fail(n)
				}
				before := calls(d)
				s, e := sediment.Open(d)
				if calls(d)-before <= n {
					if e != api.OK {
						t.Fatalf("nothing failed: %d", e)
					}
					break
				}
				if s != nil || e != api.ErrDisk {
					t.Fatalf("call %d failed: Open = %v, %d", n, s, e)
				}
				if calls(d)-before != n+1 {
					t.Errorf("the disk was asked again when it had failed")
				}
				wantNamed(t, d, log)
				d.Fail(-1)
				d.Cut(-1)
				s = open(t, d)
				wantTells(t, s, map[bool]string{true: "a=1"}[strings.HasPrefix(log, one)])
			}
		}
	}
}

// wantNamed: what the manifest names, the one of the start or the one that an Open installs, is there.
func wantNamed(t *testing.T, d *disk.Disk, log string) {
	t.Helper()
	m, _ := d.Peek("manifest")
	old, isOld := d.Peek("log-9")
	renewed, isNew := d.Peek("log-10")
	switch string(m) {
	case manifest(10, 5, 9, 0):
		if !isOld || string(old) != log {
			t.Errorf("log-9 has %q, %v", old, isOld)
		}
	case manifest(11, 5, 10, 0):
		if !isNew || !strings.HasPrefix(log, string(renewed)) || len(log) == len(renewed) {
			t.Errorf("log-10 has %q, %v", renewed, isNew)
		}
	default:
		t.Errorf("manifest has %q", m)
	}
}

// A manifest is written only when what it names is sure, and nothing goes ahead of its being sure (P7, as far as Open goes).
func TestP4Installs(t *testing.T) {
	one := frameOf(6, set("a", "1"))
	start := []string{"log-9", one + "torn", "manifest", manifest(10, 5, 9, 0), "other", "x"}
	for n := 0; ; n++ {
		d := laid(start...)
		d.Cut(n)
		if _, e := sediment.Open(d); e == api.OK {
			break
		}
		_, begun := d.Peek("manifest.tmp")
		d.Crash()
		m, _ := d.Peek("manifest")
		if string(m) != start[3] {
			continue
		}
		if b, _ := d.Peek("log-10"); begun && string(b) != one {
			t.Errorf("cut at %d: a manifest was written ahead of its log", n)
		}
		for i := 0; i < len(start); i += 2 {
			if b, in := d.Peek(start[i]); !in || string(b) != start[i+1] {
				t.Errorf("cut at %d: %s has %q, %v", n, start[i], b, in)
			}
		}
	}
}

func TestP3BeginFails(t *testing.T) {
	for n := 0; ; n++ {
		d := laid("log-1", "old", "other", "x")
		d.Fail(n)
		before := calls(d)
		s, e := sediment.Open(d)
		if calls(d)-before <= n {
			break
		}
		if s != nil || e != api.ErrDisk {
			t.Fatalf("call %d failed: Open = %v, %d", n, s, e)
		}
		open(t, d)
		wantFiles(t, d, "log-1", "", "manifest", manifest(2, 0, 1, 0))
	}
}
