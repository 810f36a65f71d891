package layer

import (
	"errors"
	"slices"
	"strings"
	"testing"

	"sediment/api"
	"sediment/disk"
	"sediment/fault"
	"sediment/layout"
)

// entries of a text: "a=1 b- c=": b is gone.
func entriesOf(s string) []api.Change {
	var l []api.Change
	for _, f := range strings.Fields(s) {
		key, value, set := strings.Cut(f, "=")
		if !set {
			key = strings.TrimSuffix(f, "-")
		}
		l = append(l, api.Change{Key: key, Value: value, Gone: !set})
	}
	return l
}

func textOf(l []api.Change) string {
	var s []string
	for _, c := range l {
		if c.Gone {
			s = append(s, c.Key+"-")
		} else {
			s = append(s, c.Key+"="+c.Value)
		}
	}
	return strings.Join(s, " ")
}

func memoryOf(s string) Entries { return list(entriesOf(s)).each }

// diskOf runs: run-1, run-2, ..
func diskOf(runs ...string) *disk.Disk {
	d := disk.New()
	for i, s := range runs {
		d.Lay(layout.RunName(i+1), layout.MakeRun(entriesOf(s)))
	}
	return d
}

func TestFromRun(t *testing.T) {
	all := entriesOf("b=1 c- d=2 e= g=4 h=5 i- j=6 k=7")
	d := diskOf(textOf(all))
	for _, key := range []string{"", "a", "b", "b\x00", "c", "d", "e", "f", "g", "gg", "j", "k", "k\x00", "z", strings.Repeat("e", 99)} {
		at := slices.IndexFunc(all, func(c api.Change) bool { return c.Key >= key })
		if at < 0 {
			at = len(all)
		}
		if got := gathered(t, FromRun(d, 1, key)); !slices.Equal(got, all[at:]) {
			t.Errorf("from %q: %v", key, got)
		}
	}
	for n := range all { // it can be left at any entry
		var got []api.Change
		for c, err := range FromRun(d, 1, "") {
			if err != nil {
				t.Fatal(err)
			}
			got = append(got, c)
			if len(got) == n+1 {
				break
			}
		}
		if !slices.Equal(got, all[:n+1]) {
			t.Errorf("the first %d: %v", n+1, got)
		}
	}
}

func TestFromRunFails(t *testing.T) {
	d := diskOf("a=1 b=2 c=3 d=4 e=5")
	good, _ := d.Peek("run-1")
	first := slices.Clone(good)
	first[12] ^= 1
	d.Lay("run-2", first)
	d.Lay("run-3", good[1:])
	for _, c := range []struct {
		number int
		key    string
		want   error
	}{{4, "", fault.ErrMissing}, {2, "", fault.ErrSum}, {2, "b", fault.ErrSum}, {3, "", fault.ErrShort}} {
		came := 0
		for e, err := range FromRun(d, c.number, c.key) {
			came++
			if e != (api.Change{}) || !errors.Is(err, c.want) {
				t.Errorf("run %d from %q: %v, %v, want %v", c.number, c.key, e, err, c.want)
			}
		}
		if came != 1 {
			t.Errorf("run %d from %q: %d came", c.number, c.key, came)
		}
	}
	// A block that is not asked for may be wrong.
	if got := gathered(t, FromRun(d, 2, "e")); textOf(got) != "e=5" {
		t.Errorf("from e: %v", got)
	}
	d.Fail(0)
	if l, err := Gather(FromRun(d, 1, ""), ""); l != nil || !errors.Is(err, fault.ErrDisk) {
		t.Errorf("%v, %v", l, err)
	}
}

func TestGather(t *testing.T) {
	for to, want := range map[string]string{"": "a=1 b- c=3", "a": "", "b": "a=1", "bb": "a=1 b-", "c": "a=1 b-", "d": "a=1 b- c=3"} {
		if got, err := Gather(memoryOf("a=1 b- c=3"), to); textOf(got) != want || err != nil {
			t.Errorf("up to %q: %v, %v", to, got, err)
		}
	}
}

func TestFind(t *testing.T) {
	d := diskOf("a=1 b- c=3", "a=old b=old c=old d- e=old", "d=base f=base")
	for key, want := range map[string]string{"a": "a=1", "b": "b-", "c": "c=3", "d": "d-", "e": "e=old", "f": "f=base"} {
		layers := []Entries{FromRun(d, 1, key), FromRun(d, 2, key), FromRun(d, 3, key)}
		if c, found, err := Find(layers, key); textOf([]api.Change{c}) != want || !found || err != nil {
			t.Errorf("Find(%q) = %v, %v, %v", key, c, found, err)
		}
	}
	for _, key := range []string{"", "aa", "dd", "g"} {
		layers := []Entries{FromRun(d, 1, key), FromRun(d, 2, key), FromRun(d, 3, key)}
		if c, found, err := Find(layers, key); c != (api.Change{}) || found || err != nil {
			t.Errorf("Find(%q) = %v, %v, %v", key, c, found, err)
		}
	}
	if _, found, err := Find(nil, "a"); found || err != nil {
		t.Errorf("found in no layers: %v", err)
	}
	// What lies below the layer that has the key is not asked; what lies above it is.
	if c, found, err := Find([]Entries{memoryOf("a="), FromRun(d, 9, "a")}, "a"); c.Key != "a" || !found || err != nil {
		t.Errorf("Find = %v, %v, %v", c, found, err)
	}
	if c, found, err := Find([]Entries{FromRun(d, 9, "a"), memoryOf("a=")}, "a"); c != (api.Change{}) || found || !errors.Is(err, fault.ErrMissing) {
		t.Errorf("Find = %v, %v, %v", c, found, err)
	}
}

// Of each layer the first entry alone is asked for.
func TestFindAsksOnce(t *testing.T) {
	asked := 0
	counted := func(yield func(api.Change, error) bool) {
		for _, c := range entriesOf("b=1 c=2 d=3") {
			asked++
			if !yield(c, nil) {
				return
			}
		}
	}
	if _, found, err := Find([]Entries{counted, counted}, "a"); found || err != nil || asked != 2 {
		t.Errorf("%v, %v; asked %d times", found, err, asked)
	}
}

func TestMerge(t *testing.T) {
	for _, c := range []struct {
		layers []string // the newest first
		to     string
		want   string
	}{
		{nil, "", ""},
		{[]string{"", "", ""}, "", ""},
		{[]string{"a=1 c-"}, "", "a=1 c-"},
		{[]string{"a=1 c=3", "b=2 d=4"}, "", "a=1 b=2 c=3 d=4"},
		{[]string{"a=1", "a=2", "a-"}, "", "a=1"},
		{[]string{"a-", "a=2", "a=3"}, "", "a-"},
		{[]string{"b=new", "a=1 b- c=1", "", "a=2 b=2 c=2 d=2", "a=3 b=3 c- d=3 e-"}, "", "a=1 b=new c=1 d=2 e-"},
		{[]string{"a=1 x=1", "b=2 x=2", "c=3 x=3", "d=4 x=4", "e=5 x=5"}, "", "a=1 b=2 c=3 d=4 e=5 x=1"},
		{[]string{"e=1 x-", "d=2 x=2", "c=3 x=3", "b=4 x=4", "a=5 x=5"}, "", "a=5 b=4 c=3 d=2 e=1 x-"},
		{[]string{"a=1 c=3", "b=2 d=4"}, "c", "a=1 b=2"},
		{[]string{"c=3", "d=4"}, "c", ""},
	} {
		var layers []Entries
		for _, s := range c.layers {
			layers = append(layers, memoryOf(s))
		}
		got := gathered(t, Merge(layers, c.to))
		if textOf(got) != c.want {
			t.Errorf("%q up to %q: %q, want %q", c.layers, c.to, textOf(got), c.want)
		}
		for e, err := range Merge(layers, c.to) { // it can be left
			if err != nil || e != got[0] {
				t.Errorf("%q: first %v, %v", c.layers, e, err)
			}
			break
		}
	}
}

func TestMergeFails(t *testing.T) {
	d := diskOf("a=1 b=2", "c=3")
	for n, want := range map[int]error{1: fault.ErrDisk, 2: nil} {
		d.Fail(n)
		came := 0
		for c, err := range Merge([]Entries{memoryOf("a=0"), FromRun(d, 1, ""), FromRun(d, 2, "")}, "") {
			came++
			if want != nil && (c != (api.Change{}) || !errors.Is(err, want)) || want == nil && err != nil {
				t.Errorf("call %d failed: %v, %v", n, c, err)
			}
		}
		if came != map[int]int{1: 1, 2: 3}[n] {
			t.Errorf("call %d failed: %d came", n, came)
		}
	}
}
