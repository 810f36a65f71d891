package sediment_test

import (
	"math"
	"math/rand"
	"slices"
	"strconv"
	"strings"
	"testing"

	"sediment/api"
	"sediment/disk"
	"sediment/sediment"
)

func TestP1NoDisk(t *testing.T) {
	refused(t, nil, api.ErrDisk)
	refused(t, &disk.Disk{}, api.ErrDisk)
}

// Whatever lies on the disk, Open answers; and what it opens works.
func TestP1AnyFiles(t *testing.T) {
	r := rand.New(rand.NewSource(1))
	base := manifest(10, 5, 9, 0)
	log := frameOf(6, set("a", "1")) + frameOf(7, set("b", "2"), gone("a"))
	last := strings.Repeat("\xff", api.MaxKey) // no key is above it
	for range 20000 {
		d := laid("manifest", spoiled(r, base), "log-9", spoiled(r, log))
		files := filesOf(d)
		s, e := sediment.Open(d)
		switch {
		case e == api.OK && s != nil:
			want := tells(t, s)
			wantErrno(t, s.Write(set(last, "1")), api.OK)
			want = strings.TrimSpace(want + " " + last + "=1")
			wantTells(t, s, want)
			wantTells(t, open(t, d), want)
		case (e == api.ErrForm || e == api.ErrFull) && s == nil:
			wantFiles(t, d, files...)
		default:
			t.Errorf("Open = %v, %d", s, e)
		}
		if t.Failed() {
			t.Fatalf("with %q", files)
		}
	}
}

// Whatever lies on the disk as a run, Open answers; and what it opens works.
func TestP1AnyRuns(t *testing.T) {
	r := rand.New(rand.NewSource(2))
	base := run(set("a", "1"), gone("b"), set("c", "3"), set("d", ""), set("e", "5"), gone("f"))
	newer := run(set("b", "2"))
	opened := 0
	for range 20000 {
		d := laid("manifest", manifest(10, 5, 9, 3, 4), "log-9", frameOf(6, set("g", "6")), "run-3", spoiledRun(r, base), "run-4", spoiledRun(r, newer))
		files := filesOf(d)
		s, e := sediment.Open(d)
		switch {
		case e == api.OK && s != nil:
			opened++
			want := tells(t, s)
			if got := meaning(t, d); got != want {
				t.Errorf("the files mean %q, told is %q", got, want)
			}
			wantErrno(t, s.Flush(), api.OK)
			wantErrno(t, s.Compact(), api.OK)
			wantTells(t, s, want)
			wantTells(t, open(t, d), want)
		case e == api.ErrForm && s == nil:
			wantFiles(t, d, files...)
		default:
			t.Errorf("Open = %v, %d", s, e)
		}
		if t.Failed() {
			t.Fatalf("with %q", files)
		}
	}
	if opened == 0 || opened == 20000 {
		t.Errorf("%d were opened", opened)
	}
}

// spoiledRun: a run with something changed, and all its sums set right again, as far as its frames go.
func spoiledRun(r *rand.Rand, s string) string {
	b := []byte(s)
	if r.Intn(3) == 0 {
		return s
	}
	at := r.Intn(len(b))
	switch r.Intn(4) {
	case 0:
		b[at] = byte(r.Intn(256))
	case 1:
		b[at] = []byte{0, 1, 2, 4, 5, 16, 17, 40, 41, 'a', 'b', 255}[r.Intn(12)]
	case 2:
		b[at]++
	case 3:
		b = append(b[:at], b[at+r.Intn(len(b)-at):]...)
	}
	out := ""
	rest := string(b)
	for len(rest) > 8 {
		n := int(rest[2])<<8 | int(rest[3])
		if n > len(rest)-8 {
			break
		}
		out += frame(rest[8 : 8+n])
		rest = rest[8+n:]
	}
	return out + rest
}

// spoiled: bytes with some of them changed, cut or doubled, and often with their sum set right again.
func spoiled(r *rand.Rand, s string) string {
	b := []byte(s)
	for range r.Intn(3) {
		at := r.Intn(len(b))
		switch r.Intn(4) {
		case 0:
			b[at] = byte(r.Intn(256))
		case 1:
			b[at] = []byte{0, 1, 2, 9, 16, 17, 40, 41, 127, 128, 255}[r.Intn(11)]
		case 2:
			b = b[:at+1]
		case 3:
			b = append(b, b[at:]...)
		}
	}
	if len(b) > 8 && r.Intn(2) == 0 {
		n := min(len(b)-8, int(b[3]))
		return frame(string(b[8:8+n])) + string(b[8+n:])
	}
	return string(b)
}

func TestP1AnyArguments(t *testing.T) {
	d := disk.New()
	s := open(t, d)
	write(t, s, set("a", "1"))
	huge := strings.Repeat("x", 1<<20)
	for _, from := range []string{"", "a", "\xff", huge} {
		for _, to := range []string{"", "a", "\xff", huge} {
			for _, most := range []int{math.MinInt, -1, 0, 1, math.MaxInt} {
				l, e := s.Scan(from, to, most)
				if most < 0 && (e != api.ErrArg || len(l) != 0) || most >= 0 && e != api.OK {
					t.Errorf("Scan(.., %d) = %v, %d", most, l, e)
				}
			}
		}
		s.Get(from)
	}
	wantErrno(t, s.Write(make([]api.Change, 100000)...), api.ErrArg)
	wantErrno(t, s.Write(set(huge, huge)), api.ErrArg)
	wantTells(t, s, "a=1")
}

func TestP1FirstError(t *testing.T) {
	d := laid("manifest", manifest(10, api.MaxBatches, 9, 0), "log-9", "")
	s := open(t, d)
	wantErrno(t, s.Write(set("", "")), api.ErrArg)
	wantErrno(t, s.Write(set("a", "")), api.ErrFull)
	d.Fail(0)
	wantErrno(t, s.Sync(), api.ErrDisk)
	wantErrno(t, s.Write(set("", "")), api.ErrDegraded)
	wantErrno(t, s.Write(set("a", "")), api.ErrDegraded)
	wantErrno(t, s.Close(), api.OK)
	wantErrno(t, s.Write(set("", "")), api.ErrClosed)
	wantErrno(t, s.Sync(), api.ErrClosed)
}

// change by chance, of few keys, so that they meet.
func change(r *rand.Rand) api.Change {
	key := strings.Repeat(string(rune('a'+r.Intn(6))), 1+r.Intn(api.MaxKey))
	if r.Intn(3) == 0 {
		return gone(key)
	}
	return set(key, strings.Repeat("v", r.Intn(api.MaxValue+1)))
}

// told is what Scan must tell of these keys.
func told(model map[string]string) string { return part(model, "", "", len(model)) }

// Stores are used by chance: the files mean what is told, ahead of each call and behind it, and Flush and Compact change nothing of it.
func TestP10AndP12(t *testing.T) {
	for seed := range int64(60) {
		r := rand.New(rand.NewSource(seed))
		d := disk.New()
		s := open(t, d)
		model := map[string]string{}
		for i := range 80 {
			switch r.Intn(9) {
			case 0:
				wantErrno(t, s.Sync(), api.OK)
			case 1:
				wantErrno(t, s.Write(), api.ErrArg)
			case 2:
				wantErrno(t, s.Close(), api.OK)
				s = open(t, d)
			case 3, 4:
				wantErrno(t, s.Flush(), api.OK)
				if b, _ := d.Peek("log-" + strconv.Itoa(s.Look().Log)); len(b) != 0 {
					t.Errorf("the log has %q behind a Flush", b)
				}
			case 5:
				wantErrno(t, s.Compact(), api.OK)
				if look := s.Look(); len(look.Runs) != 0 {
					t.Errorf("Look = %+v behind a Compact", look)
				}
			default:
				batch := batchByChance(r)
				write(t, s, batch...)
				apply(model, batch...)
			}
			wantTells(t, s, told(model))
			wantGets(t, s, "a", "aa", "bbb", "c", "", "z")
			if got := meaning(t, d); got != told(model) {
				t.Errorf("the files mean %q, want %q", got, told(model))
			}
			wantTells(t, open(t, copyOf(d)), told(model))
			if t.Failed() {
				t.Fatalf("seed %d, step %d", seed, i)
			}
		}
	}
}

// Of runs that came about by chance any part is told as of a map.
func TestP9ByChance(t *testing.T) {
	for seed := range int64(20) {
		r := rand.New(rand.NewSource(seed))
		d := disk.New()
		s := open(t, d)
		model := map[string]string{}
		for range 25 {
			batch := batchByChance(r)
			write(t, s, batch...)
			apply(model, batch...)
			if r.Intn(4) == 0 {
				wantErrno(t, s.Flush(), api.OK)
			}
		}
		for range 200 {
			from, to, most := change(r).Key, change(r).Key, r.Intn(12)
			if r.Intn(8) == 0 {
				to = ""
			}
			l, e := s.Scan(from, to, most)
			if want := part(model, from, to, most); text(l) != want || e != api.OK {
				t.Fatalf("seed %d: Scan(%q, %q, %d) = %q, %d, want %q", seed, from, to, most, text(l), e, want)
			}
		}
	}
}

// part of what a store has, as Scan must tell it.
func part(model map[string]string, from, to string, most int) string {
	var keys, l []string
	for k := range model {
		if k >= from && (to == "" || k < to) {
			keys = append(keys, k)
		}
	}
	slices.Sort(keys)
	for _, k := range keys[:min(most, len(keys))] {
		l = append(l, k+"="+model[k])
	}
	return strings.Join(l, " ")
}

func batchByChance(r *rand.Rand) []api.Change {
	var batch []api.Change
	for range 1 + r.Intn(api.MaxBatch) {
		batch = append(batch, change(r))
	}
	return batch
}

// P10 of a store whose log was written anew.
func TestP10Renewed(t *testing.T) {
	_, _, _, l := logs()
	for _, c := range l {
		d := laid("manifest", manifest(10, 5, 9, 0), "log-9", c.log)
		s := open(t, d)
		write(t, s, set("n", "new"))
		wantTells(t, open(t, copyOf(d)), tells(t, s))
		if !strings.HasSuffix(tells(t, s), "n=new") {
			t.Errorf("%q behind a Write", tells(t, s))
		}
	}
}
