package sediment_test

import (
	"slices"
	"strconv"
	"strings"
	"testing"

	"sediment/api"
	"sediment/disk"
)

// A reader of the tests' own, of files that must be right: what they mean, without an Open.

// cutter takes bytes apart.
type cutter struct {
	t    *testing.T
	rest string
}

func (c *cutter) take(n int) string {
	c.t.Helper()
	if n > len(c.rest) {
		c.t.Fatalf("a file ends too early")
	}
	s := c.rest[:n]
	c.rest = c.rest[n:]
	return s
}

func (c *cutter) number(n int) int {
	c.t.Helper()
	v := 0
	for _, x := range []byte(c.take(n)) {
		v = v<<8 | int(x)
	}
	return v
}

// frame takes one, and tells what it holds.
func (c *cutter) frame() *cutter {
	c.t.Helper()
	all := c.rest
	n := c.number(4)
	c.take(4)
	held := c.take(n)
	if frame(held) != all[:8+n] {
		c.t.Fatalf("a sum is wrong")
	}
	return &cutter{c.t, held}
}

func (c *cutter) entries() []api.Change {
	c.t.Helper()
	var l []api.Change
	for range c.number(1) {
		if c.number(1) == 2 {
			l = append(l, gone(c.take(c.number(1))))
		} else {
			key := c.take(c.number(1))
			l = append(l, set(key, c.take(c.number(1))))
		}
	}
	if c.rest != "" {
		c.t.Fatalf("something stands behind the entries")
	}
	return l
}

func fileOf(t *testing.T, d *disk.Disk, name string) *cutter {
	t.Helper()
	b, in := d.Peek(name)
	if !in {
		t.Fatalf("there is no %s", name)
	}
	return &cutter{t, string(b)}
}

// runOf a number: its entries; the file must be just the one that they make.
func runOf(t *testing.T, d *disk.Disk, n int) []api.Change {
	t.Helper()
	c := fileOf(t, d, "run-"+strconv.Itoa(n))
	all := c.rest
	footer := (&cutter{t, all[len(all)-4:]}).number(4)
	c.rest = all[:footer]
	var l []api.Change
	for c.rest != "" {
		l = append(l, c.frame().entries()...)
	}
	if len(l) == 0 || run(l...) != all || !slices.IsSortedFunc(l, func(a, b api.Change) int { return strings.Compare(a.Key, b.Key) }) {
		t.Fatalf("run-%d is not just as said: %q", n, all)
	}
	return l
}

// meaning of the files on a disk, told as by tells. Nothing but these files may lie there, and nothing but batches in the log.
func meaning(t *testing.T, d *disk.Disk) string {
	t.Helper()
	told, names, tail := means(t, d)
	if got := d.All(); !slices.Equal(got, names) {
		t.Errorf("the disk has %q, the manifest names %q", got, names)
	}
	if tail != "" {
		t.Errorf("behind the log's batches stands %q", tail)
	}
	return told
}

// means: what the manifest's files mean, whatever else lies beside them; their names, and that of the manifest; and what stands in the log behind its batches.
func means(t *testing.T, d *disk.Disk) (meant string, names []string, tail string) {
	t.Helper()
	m := fileOf(t, d, "manifest").frame()
	next, last, log, base := m.number(8), m.number(8), m.number(8), m.number(8)
	names = []string{"log-" + strconv.Itoa(log), "manifest"}
	layers := []int{}
	for range m.number(2) {
		layers = append(layers, m.number(8))
	}
	if base != 0 {
		layers = append(layers, base)
	}
	model := map[string]string{}
	slices.Reverse(layers)
	for _, n := range layers {
		names = append(names, "run-"+strconv.Itoa(n))
		apply(model, runOf(t, d, n)...)
		if n >= next {
			t.Errorf("run-%d is not below the next number %d", n, next)
		}
	}
	l := fileOf(t, d, names[0])
	for l.startsWith(last + 1) {
		b := l.frame()
		last = b.number(8)
		apply(model, b.entries()...)
	}
	slices.Sort(names)
	return told(model), names, l.rest
}

// startsWith a whole frame with the batch of this number.
func (c *cutter) startsWith(number int) bool {
	if len(c.rest) < 8 {
		return false
	}
	head := cutter{c.t, c.rest}
	n := head.number(4)
	head.take(4)
	if n < 8 || n > len(head.rest) || frame(head.rest[:n]) != c.rest[:8+n] {
		return false
	}
	return head.number(8) == number
}

// apply changes to what a store has.
func apply(model map[string]string, l ...api.Change) {
	for _, c := range l {
		delete(model, c.Key)
		if !c.Gone {
			model[c.Key] = c.Value
		}
	}
}
