package sediment_test

import (
	"fmt"
	"math"
	"math/rand"
	"slices"
	"strings"
	"testing"

	"sediment/api"
	"sediment/disk"
	"sediment/sediment"
)

func TestP1NoDisk(t *testing.T) {
	refused(t, nil, api.ErrDisk)
	refused(t, &disk.Disk{}, api.ErrDisk)
}

// Whatever lies on the disk, Open answers; and what it opens works.
func TestP1AnyFiles(t *testing.T) {
	r := rand.New(rand.NewSource(1))
	base := manifest(10, 5, 9, 0)
	log := frameOf(6, set("a", "1")) + frameOf(7, set("b", "2"), gone("a"))
	last := strings.Repeat("\xff", api.MaxKey) // no key is above it
	for range 20000 {
		d := laid("manifest", spoiled(r, base), "log-9", spoiled(r, log))
		files := filesOf(d)
		s, e := sediment.Open(d)
		switch {
		case e == api.OK && s != nil:
			want := tells(t, s)
			wantErrno(t, s.Write(set(last, "1")), api.OK)
			want = strings.TrimSpace(want + " " + last + "=1")
			wantTells(t, s, want)
			wantTells(t, open(t, d), want)
		case (e == api.ErrForm || e == api.ErrFull) && s == nil:
			wantFiles(t, d, files...)
		default:
			t.Errorf("Open = %v, %d", s, e)
		}
		if t.Failed() {
			t.Fatalf("with %q", files)
		}
	}
}

// spoiled: bytes with some of them changed, cut or doubled, and often with their sum set right again.
func spoiled(r *rand.Rand, s string) string {
	b := []byte(s)
	for range r.Intn(3) {
		at := r.Intn(len(b))
		switch r.Intn(4) {
		case 0:
			b[at] = byte(r.Intn(256))
		case 1:
			b[at] = []byte{0, 1, 2, 9, 16, 17, 40, 41, 127, 128, 255}[r.Intn(11)]
		case 2:
			b = b[:at+1]
		case 3:
			b = append(b, b[at:]...)
		}
	}
	if len(b) > 8 && r.Intn(2) == 0 {
		n := min(len(b)-8, int(b[3]))
		return frame(string(b[8:8+n])) + string(b[8+n:])
	}
	return string(b)
}

func TestP1AnyArguments(t *testing.T) {
	d := disk.New()
	s := open(t, d)
	write(t, s, set("a", "1"))
	huge := strings.Repeat("x", 1<<20)
	for _, from := range []string{"", "a", "\xff", huge} {
		for _, to := range []string{"", "a", "\xff", huge} {
			for _, most := range []int{math.MinInt, -1, 0, 1, math.MaxInt} {
				l, e := s.Scan(from, to, most)
				if most < 0 && (e != api.ErrArg || len(l) != 0) || most >= 0 && e != api.OK {
					t.Errorf("Scan(.., %d) = %v, %d", most, l, e)
				}
			}
		}
		s.Get(from)
	}
	wantErrno(t, s.Write(make([]api.Change, 100000)...), api.ErrArg)
	wantErrno(t, s.Write(set(huge, huge)), api.ErrArg)
	wantTells(t, s, "a=1")
}

func TestP1FirstError(t *testing.T) {
	d := laid("manifest", manifest(10, api.MaxBatches, 9, 0), "log-9", "")
	s := open(t, d)
	wantErrno(t, s.Write(set("", "")), api.ErrArg)
	wantErrno(t, s.Write(set("a", "")), api.ErrFull)
	d.Fail(0)
	wantErrno(t, s.Sync(), api.ErrDisk)
	wantErrno(t, s.Write(set("", "")), api.ErrDegraded)
	wantErrno(t, s.Write(set("a", "")), api.ErrDegraded)
	wantErrno(t, s.Close(), api.OK)
	wantErrno(t, s.Write(set("", "")), api.ErrClosed)
	wantErrno(t, s.Sync(), api.ErrClosed)
}

// change by chance, of few keys, so that they meet.
func change(r *rand.Rand) api.Change {
	key := strings.Repeat(string(rune('a'+r.Intn(6))), 1+r.Intn(api.MaxKey))
	if r.Intn(3) == 0 {
		return gone(key)
	}
	return set(key, strings.Repeat("v", r.Intn(api.MaxValue+1)))
}

// told is what Scan must tell of these keys.
func told(model map[string]string) string {
	var l []string
	for k, v := range model {
		l = append(l, k+"="+v)
	}
	slices.Sort(l)
	return strings.Join(l, " ")
}

func TestP10(t *testing.T) {
	for seed := range int64(30) {
		r := rand.New(rand.NewSource(seed))
		d := disk.New()
		s := open(t, d)
		model := map[string]string{}
		log := ""
		for i := range 60 {
			var batch []api.Change
			for range 1 + r.Intn(api.MaxBatch) {
				c := change(r)
				batch = append(batch, c)
				delete(model, c.Key)
				if !c.Gone {
					model[c.Key] = c.Value
				}
			}
			write(t, s, batch...)
			log += frameOf(i+1, batch...)
			switch r.Intn(5) {
			case 0:
				wantErrno(t, s.Sync(), api.OK)
			case 1:
				wantErrno(t, s.Write(), api.ErrArg)
			case 2:
				s = open(t, d)
			}
			wantFiles(t, d, "log-1", log, "manifest", manifest(2, 0, 1, 0))
			wantTells(t, s, told(model))
			wantTells(t, open(t, copyOf(d)), told(model))
			if t.Failed() {
				t.Fatalf("seed %d, batch %d", seed, i+1)
			}
		}
	}
}

// P10 of a store whose log was written anew.
func TestP10Renewed(t *testing.T) {
	_, _, _, l := logs()
	for _, c := range l {
		d := laid("manifest", manifest(10, 5, 9, 0), "log-9", c.log)
		s := open(t, d)
		write(t, s, set("n", "new"))
		wantTells(t, open(t, copyOf(d)), tells(t, s))
		if !strings.HasSuffix(tells(t, s), "n=new") {
			t.Errorf("%q behind a Write", tells(t, s))
		}
	}
}

// session writes three batches, one of them synced, as far as the disk lets it; told: how many were written, how many of them made sure of.
func session(d *disk.Disk) (written, sure int) {
	s, e := sediment.Open(d)
	if e != api.OK {
		return 0, 0
	}
	for i, sync := range []bool{false, true, false, false} {
		if sync {
			if s.Sync() == api.OK {
				sure = written
			}
		} else if s.Write(set(fmt.Sprint("k", i), "v")) == api.OK {
			written++
		}
	}
	return written, sure
}

// prefixes: what the first so many batches of a session come to.
var prefixes = []string{"", "k0=v", "k0=v k2=v", "k0=v k2=v k3=v"}

// picks: the choices number n for a crash.
func picks(n int) []int {
	var l []int
	for range 5 {
		l = append(l, n%3)
		n /= 3
	}
	return l
}

// The power goes at any call of a session, and at any call of the Open behind it (P11, as far as it is built).
func TestCrash(t *testing.T) {
	whole := disk.New()
	session(whole)
	for cut := range calls(whole) + 1 {
		for n := range 243 {
			for again := range 14 {
				d := disk.New()
				d.Cut(cut)
				written, sure := session(d)
				d.Crash(picks(n)...)
				want := atCrash(t, d)
				d.Cut(again)
				_, e := sediment.Open(d)
				d.Crash(picks(n * 7 % 243)...)
				s := open(t, d)
				got := slices.Index(prefixes, tells(t, s))
				if got < sure || got > written || e == api.OK && got != want {
					t.Fatalf("cut at %d, choices %v, cut again at %d: %d batches of %d, %d were sure", cut, picks(n), again, got, written, sure)
				}
				if got != want {
					t.Fatalf("cut at %d, choices %v, cut again at %d: %d batches, else %d", cut, picks(n), again, got, want)
				}
			}
		}
	}
}

// atCrash: how many batches an Open finds, tried on a copy.
func atCrash(t *testing.T, d *disk.Disk) int {
	t.Helper()
	return slices.Index(prefixes, tells(t, open(t, copyOf(d))))
}
