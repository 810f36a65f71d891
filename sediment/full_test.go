package sediment_test

import (
	"math/rand"
	"slices"
	"strconv"
	"strings"
	"testing"

	"sediment/api"
	"sediment/disk"
	"sediment/sediment"
)

// A disk that is full fails, too (P8, P11, P12).

// big entries of so many keys.
func big(from, count int) []api.Change {
	var l []api.Change
	for i := range count {
		l = append(l, set("x"+strconv.Itoa(from+i), strings.Repeat("x", api.MaxValue)))
	}
	return l
}

// sized: a run of just so many bytes (some hundred at least), and what is told of it.
func sized(t *testing.T, size int) (file, tells string) {
	t.Helper()
	l := big(1000, size/60)
	for len(run(l...)) < size {
		l = big(1000, len(l)+1)
	}
	more := len(run(l...)) - size
	for i := range l {
		cut := min(more, api.MaxValue)
		l[i].Value = l[i].Value[cut:]
		more -= cut
	}
	if len(run(l...)) != size {
		t.Fatalf("no run has %d bytes", size)
	}
	model := map[string]string{}
	apply(model, l...)
	return run(l...), told(model)
}

// longLog: the frames of so many batches behind number 5, and what they come to.
func longLog(count int) (log, tells string) {
	model := map[string]string{}
	for i, c := range big(5000, count) {
		log += frameOf(6+i, c)
		apply(model, c)
	}
	return log, told(model)
}

func bytesOf(files []string) int {
	n := 0
	for i := 1; i < len(files); i += 2 {
		n += len(files[i])
	}
	return n
}

// filledUp: these files and a base, run-3, that leaves just so much room on the disk; and what is told of that base.
func filledUp(t *testing.T, room int, files ...string) (all []string, tells string) {
	t.Helper()
	base, tells := sized(t, api.MaxDisk-room-bytesOf(files))
	return append(slices.Clip(files), "run-3", base), tells
}

// wantStuck: an Open for which there is no room answers ErrDisk, again and again, and takes nothing away.
func wantStuck(t *testing.T, d *disk.Disk) {
	t.Helper()
	files := filesOf(d)
	for range 3 {
		refused(t, d, api.ErrDisk)
		wantThere(t, d, files)
	}
}

// A Write for which there is no room is not done, but half of it is there: Open takes it away, if there is room for a new log.
func TestP8FullWrite(t *testing.T) {
	batch := append(big(5000, 7), gone("a"))
	old, one := frameOf(6, set("a", "1")), frameOf(7, batch...)
	m := manifest(10, 5, 9, 3)
	half, anew := len(one)/2, len(old+m)
	for _, room := range around(0, half, half+len(m), half+anew, len(one)) {
		start, base := filledUp(t, room, "log-9", old, "manifest", m)
		d := laid(start...)
		s := open(t, d)
		e := s.Write(batch...)
		if room >= len(one) {
			wantErrno(t, e, api.OK)
			means, _, _ := means(t, d)
			wantTells(t, s, means)
			wantTells(t, open(t, d), means)
			continue
		}
		wantErrno(t, e, api.ErrDisk)
		wantThere(t, d, []string{"log-9", old + one[:half], "manifest", m})
		wantDegraded(t, d, s, "a=1 "+base)
		if room < half+anew {
			wantStuck(t, d)
			continue
		}
		wantTells(t, open(t, d), "a=1 "+base)
		wantThere(t, d, []string{"log-10", old, "manifest", manifest(11, 5, 10, 3)})
	}
}

// Writes up to the end of the disk.
func TestP8FullLog(t *testing.T) {
	d := disk.New()
	s := open(t, d)
	model := map[string]string{}
	e := api.OK
	for i := 0; e == api.OK && i < api.MaxDisk; i++ {
		c := set("k"+strconv.Itoa(i%7), strconv.Itoa(i))
		if e = s.Write(c); e == api.OK {
			apply(model, c)
		}
	}
	wantErrno(t, e, api.ErrDisk)
	if n := bytesOf(filesOf(d)); n > api.MaxDisk || n < api.MaxDisk-40 {
		t.Errorf("%d bytes are there", n)
	}
	wantDegraded(t, d, s, told(model))
	wantStuck(t, d)
	if got, _, _ := means(t, d); got != told(model) {
		t.Errorf("the files mean %q, want %q", got, told(model))
	}
}

// hiding: what is gone of all the keys that a base may have that fills the disk.
func hiding() []api.Change {
	var l []api.Change
	for _, c := range big(1000, 400) {
		l = append(l, gone(c.Key))
	}
	return l
}

// around these numbers of bytes.
func around(marks ...int) []int {
	var l []int
	for _, n := range marks {
		l = append(l, max(n-2, 0), max(n-1, 0), n, n+1, n+2)
	}
	return l
}

// Flush and Compact, with more and more room: what has no room is not done, and changes nothing that is told.
func TestP12Full(t *testing.T) {
	l := []api.Change{set("a", "1"), gone("b"), set("c", strings.Repeat("c", 40))}
	log, mine := frameOf(6, l...), "a=1 c="+strings.Repeat("c", 40)
	flush, compact := (*sediment.Store).Flush, (*sediment.Store).Compact
	size, m := len(run(l...)), len(manifest(12, 6, 11, 3, 10))
	for _, room := range around(0, m, size, size+m) {
		start, base := filledUp(t, room, "log-9", log, "manifest", manifest(10, 5, 9, 3))
		wantFull(t, start, flush, room >= size+m, mine+" "+base)
	}
	for _, room := range around(0, 100, 1000, 9000) { // never enough for a base as great as this one
		start, base := filledUp(t, room, "log-9", log, "manifest", manifest(10, 5, 9, 3, 4), "run-4", run(set("b", "4")))
		wantFull(t, start, compact, false, mine+" "+base)
	}
	size, m = len(run(set("y", "4"))), len(manifest(11, 5, 9, 10))
	for _, room := range around(0, m, size, size+m) {
		start, _ := filledUp(t, room, "log-9", log, "manifest", manifest(10, 5, 9, 3, 4), "run-4", run(append(hiding(), set("y", "4"))...))
		wantFull(t, start, compact, room >= size+m, mine+" y=4")
	}
	for _, room := range around(0, m) {
		start, _ := filledUp(t, room, "log-9", log, "manifest", manifest(10, 5, 9, 3, 4), "run-4", run(hiding()...))
		wantFull(t, start, compact, room >= m, mine)
	}
}

// wantFull: a call on a disk with these files, where there is room for what it lays, or not; then an Open finds all as it was.
func wantFull(t *testing.T, start []string, call func(*sediment.Store) api.Errno, room bool, tells string) {
	t.Helper()
	d := laid(start...)
	s := open(t, d)
	e := call(s)
	if room {
		wantErrno(t, e, api.OK)
		wantTells(t, s, tells)
		wantTells(t, open(t, d), tells)
		return
	}
	wantErrno(t, e, api.ErrDisk)
	wantDegraded(t, d, s, tells)
	wantTells(t, open(t, d), tells)
	wantFiles(t, d, filesOf(laid(start...))...)
}

// An Open that must write a log anew, with more and more room.
func TestP8FullOpen(t *testing.T) {
	log, torn := frameOf(6, set("a", "1"))+frameOf(7, gone("b")), "torn"
	need := len(log) + len(manifest(11, 5, 10, 3))
	for _, room := range around(0, len(log), len(manifest(11, 5, 10, 3)), need) {
		start, base := filledUp(t, room, "log-9", log+torn, "manifest", manifest(10, 5, 9, 3))
		d := laid(start...)
		if room < need {
			wantStuck(t, d)
			continue
		}
		wantTells(t, open(t, d), "a=1 "+base)
		wantThere(t, d, []string{"log-10", log, "manifest", manifest(11, 5, 10, 3)})
		if room == need { // and no more is needed when the power goes in it
			ends{}.of(t, filesOf(laid(start...)))
		}
	}
}

// The power goes in a Flush or a Compact when there is room for what is laid, but not for a new log, too: so Open must not have to write one.
func TestP11Full(t *testing.T) {
	log, tells := longLog(125)
	base, baseTells := sized(t, 6000)
	short, shortTells := longLog(70)
	a, b := writes(set("a", "1")), writes(set("b", "2"), gone("a"))
	for name, x := range map[string]session{
		"flush":   {[]string{"log-9", log, "manifest", manifest(10, 5, 9, 0)}, tells, []step{a, b, flushes}},
		"compact": {[]string{"log-9", short, "manifest", manifest(10, 5, 9, 3, 4), "run-3", base, "run-4", run(set("z", ""))}, shortTells + " " + baseTells + " z=", []step{a, b, compacts}},
	} {
		whole := laid(x.start...)
		p := x.live(t, whole)
		if got := meaning(t, whole); got != told(p.has[2]) {
			t.Errorf("%s: the files mean %q", name, got)
		}
		for cut := range x.calls(t) + 1 {
			x.wantFound(t, toldOf, func() *disk.Disk { return cutAt(x.start, cut) })
			if t.Failed() {
				t.Fatalf("%s, cut at %d", name, cut)
			}
		}
	}
}

// toldOf a disk with these files, when it is opened.
func toldOf(t *testing.T, files []string) string {
	t.Helper()
	return tells(t, open(t, laid(files...)))
}

// noRoom tells whether a log must be written anew for which the manifest's files alone leave no room.
func noRoom(t *testing.T, d *disk.Disk) bool {
	t.Helper()
	_, names, tail := means(t, d)
	need := -len(tail)
	for _, name := range names {
		b, _ := d.Peek(name)
		need += len(b)
		if name == "manifest" || strings.HasPrefix(name, "log-") {
			need += len(b) // it is laid anew beside the old one
		}
	}
	return tail != "" && need > api.MaxDisk
}

// bigStepByChance: mostly a Write that takes much room.
func bigStepByChance(r *rand.Rand) step {
	if n := r.Intn(16); n < 5 {
		return []step{syncs, flushes, compacts, reads, opens}[n]
	}
	return writes(big(r.Intn(300), 1+r.Intn(api.MaxBatch))...)
}

// Sessions by chance up to the end of the disk: when the power goes, Open fails for want of room only where the manifest's files alone leave none for a log that must be written anew; nothing that was laid beside them is to blame.
func TestP11FullByChance(t *testing.T) {
	full, stuck := 0, 0
	for seed := range int64(80) {
		r := rand.New(rand.NewSource(seed))
		d := disk.New()
		s := open(t, d)
		p := past{has: []map[string]string{{}}}
		for range 150 {
			if r.Intn(12) == 0 {
				d.Cut(r.Intn(20))
			}
			s = bigStepByChance(r)(t, d, s, &p)
			d.Cut(-1)
			if !s.Look().Degraded && r.Intn(12) > 0 {
				continue
			}
			if bytesOf(filesOf(d)) > api.MaxDisk*9/10 {
				full++
			}
			if r.Intn(4) > 0 {
				d.Crash(choicesByChance(r)...)
			}
			if noRoom(t, d) {
				wantStuck(t, d)
				stuck++
				break
			}
			s = open(t, d)
			p.found(t, tells(t, s))
			meaning(t, d)
			if t.Failed() {
				t.Fatalf("seed %d", seed)
			}
		}
	}
	if full < 20 || stuck < 5 {
		t.Errorf("the disk was full %d times, and %d times an Open had no room", full, stuck)
	}
}
