package sediment_test

import (
	"maps"
	"math/rand"
	"slices"
	"strings"
	"testing"

	"sediment/api"
	"sediment/disk"
	"sediment/sediment"
)

// The power goes at each call of the disk in turn, in each call of a store, and the disk chooses in every way that it may (P11).

// outcomes: all that may be found on a disk when the power has gone, as lists of files. made makes that disk, each time the same.
func outcomes(made func() *disk.Disk) [][]string {
	var all [][]string
	found := func(choices []int) []string {
		d := made()
		d.Crash(choices...)
		return filesOf(d)
	}
	var choose func(choices []int, files []string)
	choose = func(choices []int, files []string) {
		other := append(slices.Clip(choices), 1)
		others := found(other)
		if slices.Equal(files, others) { // nothing is left to choose
			all = append(all, files)
			return
		}
		choose(append(slices.Clip(choices), 0), files)
		choose(other, others)
	}
	for names := range pending(made) + 1 {
		choose([]int{names}, found([]int{names}))
	}
	return all
}

// pending: how many changes of names are not made sure of. One more is done, as the last: it is there only where all the others are.
func pending(made func() *disk.Disk) int {
	for n := 0; ; n++ {
		d := made()
		d.Fail(-1)
		d.Cut(-1)
		d.Create("one more")
		d.Crash(n)
		if _, in := d.Peek("one more"); in {
			return n - 1
		}
	}
}

// The outcomes are all that the document tells of: each Append there, lost or torn, names done up to some point.
func TestOutcomes(t *testing.T) {
	got := outcomes(func() *disk.Disk {
		d := laid("a", "A", "b", "B")
		d.Append("a", []byte("1122"))
		d.Append("a", []byte("33"))
		d.Create("c")
		d.Append("c", []byte("44"))
		d.Remove("b")
		d.Rename("a", "b")
		return d
	})
	a := []string{"A", "A1122", "A11", "A\x00\x00\x00\x0033", "A\x00\x00\x00\x003", "A112233", "A11223"}
	c := []string{"", "44", "4"}
	want := map[string]bool{}
	for _, a := range a {
		want[strings.Join([]string{"a", a, "b", "B"}, "|")] = true
		for _, c := range c {
			want[strings.Join([]string{"a", a, "b", "B", "c", c}, "|")] = true
			want[strings.Join([]string{"a", a, "c", c}, "|")] = true
			want[strings.Join([]string{"b", a, "c", c}, "|")] = true
		}
	}
	if len(got) != len(want) {
		t.Errorf("%d outcomes, want %d", len(got), len(want))
	}
	for _, files := range got {
		if !want[strings.Join(files, "|")] {
			t.Errorf("no outcome: %q", files)
		}
	}
}

// ends: what Open came to, on disks that were looked through.
type ends map[string]string

// of a disk with these files: Open is OK, and comes to the same in the end, however often the power goes in it.
func (m ends) of(t *testing.T, files []string) string {
	t.Helper()
	key := strings.Join(files, "\x00|\x00")
	if told, in := m[key]; in {
		return told
	}
	d := laid(files...)
	s := open(t, d)
	asked, told := calls(d), tells(t, s)
	if got := meaning(t, d); got != told {
		t.Errorf("behind the Open the files mean %q, told is %q", got, told)
	}
	if manifestOf(files) != "" {
		if got, _, _ := means(t, laid(files...)); got != told {
			t.Errorf("ahead of the Open the files mean %q, told is %q", got, told)
		}
	}
	m[key] = told
	if len(m) > 50000 {
		t.Fatalf("there is no end of what may be found on a disk")
	}
	for cut := range asked + 1 {
		for _, next := range outcomes(func() *disk.Disk { return cutOpen(files, cut) }) {
			if got := m.of(t, next); got != told {
				t.Errorf("when the power went at call %d of an Open: told %q, at first %q", cut, got, told)
			}
		}
		if t.Failed() {
			t.Fatalf("of %q", files)
		}
	}
	return told
}

// cutAt: a disk with these files, of which all calls fail from this one on.
func cutAt(files []string, cut int) *disk.Disk {
	d := laid(files...)
	d.Cut(cut)
	return d
}

// cutOpen: such a disk, behind an Open.
func cutOpen(files []string, cut int) *disk.Disk {
	d := cutAt(files, cut)
	sediment.Open(d)
	return d
}

// past of a disk: what was written to it.
type past struct {
	has  []map[string]string // what the first so many batches come to
	sure int                 // so many of them are made sure of
}

func (p *past) wrote(batch []api.Change) {
	now := maps.Clone(p.has[len(p.has)-1])
	apply(now, batch...)
	p.has = append(p.has, now)
}

// allSure: what was written is there, whatever happens.
func (p *past) allSure() { p.sure = len(p.has) - 1 }

// found is what a store tells that was opened; so many batches were written then, and no more.
func (p *past) found(t *testing.T, got string) {
	t.Helper()
	for n := p.sure; n < len(p.has); n++ {
		if told(p.has[n]) == got {
			p.has, p.sure = p.has[:n+1], n
			return
		}
	}
	t.Errorf("told %q: of %q not what the first %d batches or more come to", got, p.has, p.sure)
}

// step of a session.
type step func(t *testing.T, d *disk.Disk, s *sediment.Store, p *past) *sediment.Store

func writes(l ...api.Change) step {
	return func(t *testing.T, d *disk.Disk, s *sediment.Store, p *past) *sediment.Store {
		if e := s.Write(l...); e == api.OK || e == api.ErrDisk {
			p.wrote(l)
		}
		return s
	}
}

func syncs(t *testing.T, d *disk.Disk, s *sediment.Store, p *past) *sediment.Store {
	if s.Sync() == api.OK {
		p.allSure()
	}
	return s
}

func flushes(t *testing.T, d *disk.Disk, s *sediment.Store, p *past) *sediment.Store {
	if s.Flush() == api.OK {
		p.allSure()
	}
	return s
}

func compacts(t *testing.T, d *disk.Disk, s *sediment.Store, p *past) *sediment.Store {
	s.Compact()
	return s
}

func reads(t *testing.T, d *disk.Disk, s *sediment.Store, p *past) *sediment.Store {
	s.Get("a")
	s.Scan("", "", 9)
	return s
}

// opens the disk anew: no power went.
func opens(t *testing.T, d *disk.Disk, s *sediment.Store, p *past) *sediment.Store {
	t.Helper()
	if again, e := sediment.Open(d); e == api.OK {
		p.found(t, meaning(t, d)) // not what is told: the disk may fail in that
		return again
	}
	return s
}

// session on a disk.
type session struct {
	start []string // the files
	tells string   // what is told of them
	steps []step
}

// live through the session on such a disk, as far as that lets it go.
func (x session) live(t *testing.T, d *disk.Disk) past {
	t.Helper()
	has := map[string]string{}
	for _, pair := range strings.Fields(x.tells) {
		key, value, _ := strings.Cut(pair, "=")
		has[key] = value
	}
	p := past{has: []map[string]string{has}}
	s := opens(t, d, nil, &p)
	for _, step := range x.steps {
		if s == nil {
			s = opens(t, d, nil, &p) // a disk that failed once may be opened at the next try
		}
		if s != nil {
			s = step(t, d, s, &p)
		}
	}
	return p
}

func sessions() map[string]session {
	layers := filesOf(layered())
	torn := openings()["a torn log among others"]
	lost := openings()["a log whose first batch is lost"]
	junk := openings()["files without a manifest"]
	none := []string{"log-9", "", "manifest", manifest(10, 5, 9, 4, 3), "run-3", run(gone("a")), "run-4", run(set("a", "1"))}
	a, b, c := writes(set("a", "1"), set("b", "1")), writes(gone("a"), set("d", "")), writes(set("c", "3"), gone("b"), set("e", strings.Repeat("e", 40)))
	return map[string]session{
		"open":                      {nil, "", nil},
		"open with other files":     {junk.start, "", []step{a}},
		"open and open":             {nil, "", []step{opens, a, opens, b, opens}},
		"open a torn log":           {torn.start, torn.tells, []step{a, b}},
		"open a log with a gap":     {lost.start, lost.tells, []step{a, opens}},
		"write":                     {nil, "", []step{a, b, c}},
		"write and sync":            {nil, "", []step{a, syncs, b, syncs, c}},
		"flush":                     {nil, "", []step{a, b, flushes, c}},
		"flush and flush":           {nil, "", []step{a, flushes, b, flushes, c, flushes}},
		"flush over layers":         {layers, layeredTells, []step{a, b, flushes, c}},
		"compact":                   {nil, "", []step{a, flushes, b, compacts, c}},
		"compact and flush":         {nil, "", []step{a, flushes, b, flushes, compacts, c, flushes, compacts}},
		"compact over layers":       {layers, layeredTells, []step{a, compacts, b}},
		"compact, nothing is left":  {none, "", []step{a, compacts, b}},
		"all of it":                 {nil, "", []step{a, flushes, b, reads, syncs, compacts, c, flushes, compacts, opens, a, flushes}},
		"read":                      {layers, layeredTells, []step{a, reads}},
		"sync, flush, compact, end": {torn.start, torn.tells, []step{a, syncs, b, flushes, compacts, c, syncs}},
	}
}

// The power goes at each call of a session's, then of an Open's, again and again.
func TestP11(t *testing.T) {
	m := ends{}
	for name, x := range sessions() {
		for cut := range x.calls(t) + 1 {
			x.wantFound(t, m.of, func() *disk.Disk { return cutAt(x.start, cut) })
			if t.Failed() {
				t.Fatalf("%s, cut at %d", name, cut)
			}
		}
	}
}

// One call of the disk fails, and the power goes when the session is over, which may have gone on with another store.
func TestP11Fails(t *testing.T) {
	m := ends{}
	for name, x := range sessions() {
		for _, more := range [][]step{nil, {opens}, {opens, writes(set("z", "26")), syncs}, {opens, writes(set("z", "26")), flushes}} {
			y := session{x.start, x.tells, slices.Concat(x.steps, more)}
			for n := range y.calls(t) {
				y.wantFound(t, m.of, func() *disk.Disk {
					d := laid(y.start...)
					d.Fail(n)
					return d
				})
				if t.Failed() {
					t.Fatalf("%s, and %d steps more; call %d failed", name, len(more), n)
				}
			}
		}
	}
}

// calls of the disk in the whole session.
func (x session) calls(t *testing.T) int {
	t.Helper()
	d := laid(x.start...)
	x.live(t, d)
	return calls(d)
}

// wantFound: the session is lived through on such a disk, the power goes, and however the disk chooses, what is told of its files then is what was written, up to some point.
func (x session) wantFound(t *testing.T, of func(*testing.T, []string) string, made func() *disk.Disk) {
	t.Helper()
	p := x.live(t, made())
	for _, files := range outcomes(func() *disk.Disk {
		d := made()
		x.live(t, d)
		return d
	}) {
		then := p
		then.found(t, of(t, files))
		if t.Failed() {
			t.Fatalf("of %q", files)
		}
	}
}

func TestP11Example4(t *testing.T) {
	d := disk.New()
	s := open(t, d)
	write(t, s, set("a", "1"))
	write(t, s, set("b", "2"))
	d.Crash(0, 0, 1) // the first frame is lost, the second one is there
	wantFiles(t, d, "log-1", strings.Repeat("\x00", len(frameOf(1, set("a", "1"))))+frameOf(2, set("b", "2")), "manifest", manifest(2, 0, 1, 0))
	wantTells(t, open(t, d), "")
	wantFiles(t, d, "log-2", "", "manifest", manifest(3, 0, 2, 0))
	d.Crash()
	wantTells(t, open(t, d), "")
	wantFiles(t, d, "log-2", "", "manifest", manifest(3, 0, 2, 0))
}

// choicesByChance for a crash.
func choicesByChance(r *rand.Rand) []int {
	var l []int
	for range r.Intn(16) {
		l = append(l, r.Intn(6))
	}
	return l
}

// stepByChance: any, mostly a Write.
func stepByChance(r *rand.Rand) step {
	if n := r.Intn(14); n < 6 {
		return []step{syncs, flushes, flushes, compacts, reads, opens}[n]
	}
	return writes(batchByChance(r)...)
}

// Sessions by chance: calls of the disk fail, one or all, the power goes, an Open fails or is cut off; and all goes on from what is found.
func TestP11ByChance(t *testing.T) {
	for seed := range int64(600) {
		r := rand.New(rand.NewSource(seed))
		d := disk.New()
		s := open(t, d)
		p := past{has: []map[string]string{{}}}
		for range 40 {
			if r.Intn(4) == 0 {
				failAt(d, r.Intn(20), r.Intn(2) == 0)
			}
			s = stepByChance(r)(t, d, s, &p)
			if !s.Look().Degraded && r.Intn(8) > 0 {
				d.Fail(-1)
				d.Cut(-1)
				continue
			}
			if r.Intn(4) > 0 {
				d.Crash(choicesByChance(r)...)
			}
			for range r.Intn(3) {
				failAt(d, r.Intn(16), r.Intn(2) == 0)
				s = opens(t, d, s, &p)
				if r.Intn(2) == 0 {
					d.Crash(choicesByChance(r)...)
				}
			}
			d.Fail(-1)
			d.Cut(-1)
			s = open(t, d)
			p.found(t, tells(t, s))
			if got := meaning(t, d); got != tells(t, s) {
				t.Errorf("the files mean %q, told is %q", got, tells(t, s))
			}
			if t.Failed() {
				t.Fatalf("seed %d", seed)
			}
		}
	}
}
