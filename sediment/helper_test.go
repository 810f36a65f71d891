package sediment_test

import (
	"hash/crc32"
	"slices"
	"strings"
	"testing"

	"sediment/api"
	"sediment/disk"
	"sediment/sediment"
)

// The tests write files by functions of their own, lest a fault of the program's writers be hidden by the same one in its readers.

func number(v, n int) string {
	b := make([]byte, n)
	for i := range b {
		b[n-1-i] = byte(v >> (8 * i))
	}
	return string(b)
}

func frame(held string) string {
	sum := crc32.Checksum([]byte(held), crc32.MakeTable(crc32.Castagnoli))
	return number(len(held), 4) + number(int(sum), 4) + held
}

func entry(c api.Change) string {
	if c.Gone {
		return "\x02" + number(len(c.Key), 1) + c.Key
	}
	return "\x01" + number(len(c.Key), 1) + c.Key + number(len(c.Value), 1) + c.Value
}

func frameOf(n int, l ...api.Change) string {
	s := number(n, 8) + number(len(l), 1)
	for _, c := range l {
		s += entry(c)
	}
	return frame(s)
}

func manifest(next, last, log, base int, runs ...int) string {
	s := number(next, 8) + number(last, 8) + number(log, 8) + number(base, 8) + number(len(runs), 2)
	for _, r := range runs {
		s += number(r, 8)
	}
	return frame(s)
}

// run of these entries, in just this order.
func run(l ...api.Change) string {
	blocks, places, count := "", "", 0
	for part := range slices.Chunk(l, 4) {
		held := number(len(part), 1)
		for _, c := range part {
			held += entry(c)
		}
		places += number(len(blocks), 4) + number(len(part[0].Key), 1) + part[0].Key
		blocks += frame(held)
		count++
	}
	return blocks + frame(number(count, 2)+places) + number(len(blocks), 4)
}

func set(key, value string) api.Change { return api.Change{Key: key, Value: value} }

func gone(key string) api.Change { return api.Change{Key: key, Gone: true} }

// laid is a disk with files: names and what they hold.
func laid(l ...string) *disk.Disk {
	d := disk.New()
	for i := 0; i < len(l); i += 2 {
		d.Lay(l[i], []byte(l[i+1]))
	}
	return d
}

// filesOf a disk: names and what they hold.
func filesOf(d *disk.Disk) []string {
	var l []string
	for _, n := range d.All() {
		b, _ := d.Peek(n)
		l = append(l, n, string(b))
	}
	return l
}

func wantFiles(t *testing.T, d *disk.Disk, want ...string) {
	t.Helper()
	if got := filesOf(d); !slices.Equal(got, want) {
		t.Errorf("the disk has %q, want %q", got, want)
	}
}

func wantErrno(t *testing.T, got, want api.Errno) {
	t.Helper()
	if got != want {
		t.Errorf("answered %d, want %d", got, want)
	}
}

func open(t *testing.T, d *disk.Disk) *sediment.Store {
	t.Helper()
	s, e := sediment.Open(d)
	if s == nil || e != api.OK {
		t.Fatalf("Open = %v, %d", s, e)
	}
	return s
}

func refused(t *testing.T, d *disk.Disk, want api.Errno) {
	t.Helper()
	if s, e := sediment.Open(d); s != nil || e != want {
		t.Errorf("Open = %v, %d, want %d", s, e, want)
	}
}

func write(t *testing.T, s *sediment.Store, l ...api.Change) {
	t.Helper()
	if e := s.Write(l...); e != api.OK {
		t.Fatalf("Write = %d", e)
	}
}

// tells is all that Scan tells: "a=1 b=2".
func tells(t *testing.T, s *sediment.Store) string {
	t.Helper()
	pairs, e := s.Scan("", "", 1<<30)
	if e != api.OK {
		t.Fatalf("Scan = %d", e)
	}
	return text(pairs)
}

func text(pairs []api.Pair) string {
	var l []string
	for _, p := range pairs {
		l = append(l, p.Key+"="+p.Value)
	}
	return strings.Join(l, " ")
}

func wantTells(t *testing.T, s *sediment.Store, want string) {
	t.Helper()
	if got := tells(t, s); got != want {
		t.Errorf("Scan tells %q, want %q", got, want)
	}
}

func wantLook(t *testing.T, s *sediment.Store, want api.Look) {
	t.Helper()
	got := s.Look()
	if !slices.Equal(got.Runs, want.Runs) || got.Batches != want.Batches || got.Log != want.Log || got.Base != want.Base || got.Next != want.Next || got.Degraded != want.Degraded || got.Closed != want.Closed {
		t.Errorf("Look = %+v, want %+v", got, want)
	}
}

// wantGets: Get tells what Scan does, of these keys and of all that Scan tells.
func wantGets(t *testing.T, s *sediment.Store, keys ...string) {
	t.Helper()
	pairs, e := s.Scan("", "", 1<<30)
	if e != api.OK {
		t.Fatalf("Scan = %d", e)
	}
	for _, p := range pairs {
		if v, in, e := s.Get(p.Key); v != p.Value || !in || e != api.OK {
			t.Errorf("Get(%q) = %q, %v, %d; Scan tells %q", p.Key, v, in, e, p.Value)
		}
	}
	for _, key := range keys {
		if slices.ContainsFunc(pairs, func(p api.Pair) bool { return p.Key == key }) {
			continue
		}
		if v, in, e := s.Get(key); v != "" || in || e != api.OK {
			t.Errorf("Get(%q) = %q, %v, %d; Scan does not tell it", key, v, in, e)
		}
	}
}

// wrote tells how many calls were to change the disk.
func wrote(d *disk.Disk) int {
	_, n := d.Calls()
	return n
}

func calls(d *disk.Disk) int {
	n, _ := d.Calls()
	return n
}

// copyOf a disk, with all made sure of.
func copyOf(d *disk.Disk) *disk.Disk { return laid(filesOf(d)...) }
