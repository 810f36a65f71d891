package sediment_test

import (
	"math"
	"strings"
	"testing"

	"sediment/api"
	"sediment/disk"
	"sediment/sediment"
)

// filled is a store with some keys, one of them gone.
func filled(t *testing.T) (*disk.Disk, *sediment.Store) {
	t.Helper()
	d := disk.New()
	s := open(t, d)
	write(t, s, set("b", "2"), set("d", "4"), set("a", "1"), set("c", "3"))
	write(t, s, gone("c"), set("\xff", "last"), set("aa", ""))
	return d, s
}

func TestP9Get(t *testing.T) {
	_, s := filled(t)
	for key, want := range map[string]string{"a": "1", "aa": "", "b": "2", "d": "4", "\xff": "last"} {
		if v, in, e := s.Get(key); v != want || !in || e != api.OK {
			t.Errorf("Get(%q) = %q, %v, %d", key, v, in, e)
		}
	}
	for _, key := range []string{"", "c", "ab", "\x00", "\xff\xff", strings.Repeat("a", 17), strings.Repeat("a", 10000)} {
		if v, in, e := s.Get(key); v != "" || in || e != api.OK {
			t.Errorf("Get(%q) = %q, %v, %d", key, v, in, e)
		}
	}
}

func TestP9Scan(t *testing.T) {
	_, s := filled(t)
	all := "a=1 aa= b=2 d=4 \xff=last"
	for _, c := range []struct {
		from, to string
		most     int
		want     string
	}{
		{"", "", math.MaxInt, all}, {"", "", 5, all}, {"", "", 4, "a=1 aa= b=2 d=4"}, {"", "", 0, ""},
		{"a", "b", 9, "a=1 aa="}, {"aa", "d", 9, "aa= b=2"}, {"b", "d", 2, "b=2"}, {"c", "", 1, "d=4"}, {"b", "", 2, "b=2 d=4"},
		{"a\x00", "", 1, "aa="}, {"b", "b", 9, ""}, {"d", "b", 9, ""}, {"", "a", 9, ""}, {"\xff", "", 9, "\xff=last"}, {"\xff\x00", "", 9, ""},
		{strings.Repeat("a", 99), "d", 9, "b=2"}, {"", strings.Repeat("b", 99), 9, "a=1 aa= b=2"},
	} {
		l, e := s.Scan(c.from, c.to, c.most)
		if got := text(l); got != c.want || e != api.OK {
			t.Errorf("Scan(%q, %q, %d) = %q, %d, want %q", c.from, c.to, c.most, got, e, c.want)
		}
	}
	for _, most := range []int{-1, math.MinInt} {
		if l, e := s.Scan("", "", most); len(l) != 0 || e != api.ErrArg {
			t.Errorf("Scan(.., %d) = %v, %d", most, l, e)
		}
	}
}

func TestP9ReadsChangeNothing(t *testing.T) {
	d, s := filled(t)
	files, before := filesOf(d), wrote(d)
	s.Get("a")
	s.Get("")
	s.Scan("", "", 9)
	s.Scan("", "", -1)
	s.Look()
	wantFiles(t, d, files...)
	if wrote(d) != before {
		t.Errorf("the disk was told to change")
	}
}

func TestP9Close(t *testing.T) {
	d, s := filled(t)
	wantLook(t, s, api.Look{Batches: 2, Log: 1, Next: 2})
	files, before := filesOf(d), calls(d)
	d.Cut(0)
	wantErrno(t, s.Close(), api.OK)
	wantErrno(t, s.Close(), api.ErrClosed)
	wantErrno(t, s.Write(set("a", "2")), api.ErrClosed)
	wantErrno(t, s.Write(), api.ErrClosed)
	wantErrno(t, s.Sync(), api.ErrClosed)
	wantErrno(t, s.Flush(), api.ErrClosed)
	wantErrno(t, s.Compact(), api.ErrClosed)
	if v, in, e := s.Get("a"); v != "" || in || e != api.ErrClosed {
		t.Errorf("Get = %q, %v, %d", v, in, e)
	}
	for _, most := range []int{9, -1} {
		if l, e := s.Scan("", "", most); len(l) != 0 || e != api.ErrClosed {
			t.Errorf("Scan = %v, %d", l, e)
		}
	}
	wantLook(t, s, api.Look{Batches: 2, Log: 1, Next: 2, Closed: true})
	wantFiles(t, d, files...)
	if calls(d) != before {
		t.Errorf("the disk was asked")
	}
	d.Cut(-1)
	wantTells(t, open(t, d), "a=1 aa= b=2 d=4 \xff=last")
}

func TestP2HandedIn(t *testing.T) {
	d := disk.New()
	s := open(t, d)
	room := []api.Change{set("a", "1"), set("b", "2"), set("c", "3")}
	write(t, s, room[:2]...)
	if room[0] != set("a", "1") || room[1] != set("b", "2") || room[2] != set("c", "3") {
		t.Errorf("Write made %v of its batch", room)
	}
	room[0], room[1] = set("x", "9"), gone("y")
	wantTells(t, s, "a=1 b=2")
	wantFiles(t, d, "log-1", frameOf(1, set("a", "1"), set("b", "2")), "manifest", manifest(2, 0, 1, 0))
}

func TestP2HandedOut(t *testing.T) {
	_, s := filled(t)
	for _, most := range []int{0, 2, 9} {
		l, _ := s.Scan("", "", most)
		other, _ := s.Scan("", "", most)
		want := text(other)
		l = l[:cap(l)]
		for i := range l {
			l[i] = api.Pair{Key: "mine", Value: "mine"}
		}
		if got := text(other); got != want {
			t.Errorf("two lists share memory: %q", got)
		}
		wantTells(t, s, "a=1 aa= b=2 d=4 \xff=last")
	}
}

func TestP2SameAnswers(t *testing.T) {
	d, s := filled(t)
	again := open(t, copyOf(d))
	if tells(t, s) != tells(t, again) {
		t.Errorf("one tells %q, the other %q", tells(t, s), tells(t, again))
	}
	wantLook(t, again, s.Look())
	// What is done with one store says nothing to another.
	write(t, again, set("z", "0"))
	wantTells(t, s, "a=1 aa= b=2 d=4 \xff=last")
}
