package layout

import (
	"errors"
	"slices"
	"strings"
	"testing"

	"sediment/api"
	"sediment/fault"
	"sediment/frame"
)

const first = "\x00\x00\x00\x00\x00\x00\x00\x01" // the number 1

func TestBatch(t *testing.T) { // example 2
	b := Batch(1, []api.Change{{Key: "a", Value: "1"}})
	held := first + "\x01\x01\x01a\x011"
	if string(b) != string(frame.Make([]byte(held))) || len(b) != 8+14 {
		t.Errorf("frame %x", b)
	}
}

func TestBatchBack(t *testing.T) {
	long := api.Change{Key: strings.Repeat("k", api.MaxKey), Value: strings.Repeat("v", api.MaxValue)}
	for _, l := range [][]api.Change{
		{{Key: "a"}}, {{Key: "a", Gone: true}}, {{Key: "\x00", Value: "\xff"}}, slices.Repeat([]api.Change{long}, api.MaxBatch),
	} {
		for _, number := range []int{1, 256, api.MaxBatches} {
			got, rest, err := TakeBatch(append(Batch(number, l), "more"...), number)
			if err != nil || !slices.Equal(got, l) || string(rest) != "more" {
				t.Errorf("batch %d: %v, %q, %v", number, got, rest, err)
			}
			if _, _, err := TakeBatch(Batch(number, l), number+1); !errors.Is(err, fault.ErrValue) {
				t.Errorf("batch %d for the one behind it: %v", number, err)
			}
		}
	}
}

func TestBatchWrong(t *testing.T) {
	key, value := strings.Repeat("k", 17), strings.Repeat("v", 41)
	for held, want := range map[string]error{
		"":                                    fault.ErrShort,
		first[:7]:                             fault.ErrShort,
		first:                                 fault.ErrShort,
		first + "\x00":                        fault.ErrValue,
		first + "\x09":                        fault.ErrValue,
		first + "\x01":                        fault.ErrShort,
		first + "\x01\x00\x01a\x00":           fault.ErrValue,
		first + "\x01\x03\x01a\x00":           fault.ErrValue,
		first + "\x01\x01\x00\x00":            fault.ErrValue,
		first + "\x01\x02\x00":                fault.ErrValue,
		first + "\x01\x01\x02a":               fault.ErrShort,
		first + "\x01\x01\x01a":               fault.ErrShort,
		first + "\x01\x01\x01a\x02b":          fault.ErrShort,
		first + "\x01\x02\x01a\x00":           fault.ErrTail,
		first + "\x01\x01\x01a\x00x":          fault.ErrTail,
		first + "\x02\x01\x01a\x00":           fault.ErrShort,
		first + "\x01\x01\x11" + key + "\x00": fault.ErrValue,
		first + "\x01\x01\x01a\x29" + value:   fault.ErrValue,
		"\x80" + first[1:] + "\x01\x02\x01a":  fault.ErrValue,
	} {
		batch, rest, err := TakeBatch(frame.Make([]byte(held)), 1)
		if !errors.Is(err, want) || batch != nil || rest != nil {
			t.Errorf("%q: %v, %q, %v, want %v", held, batch, rest, err, want)
		}
	}
	if _, _, err := TakeBatch(make([]byte, 40), 1); !errors.Is(err, fault.ErrShort) {
		t.Errorf("bytes 0: %v", err)
	}
}

func TestAllowedBatch(t *testing.T) {
	key, value := strings.Repeat("k", 17), strings.Repeat("v", 41)
	for i, c := range []struct {
		batch []api.Change
		want  bool
	}{
		{nil, false},
		{make([]api.Change, 1), false},
		{slices.Repeat([]api.Change{{Key: "a"}}, 8), true},
		{slices.Repeat([]api.Change{{Key: "a"}}, 9), false},
		{[]api.Change{{Key: key[:16], Value: value[:40]}}, true},
		{[]api.Change{{Key: key}}, false},
		{[]api.Change{{Key: "a"}, {Key: "a", Value: value}}, false},
		{[]api.Change{{Key: "a", Gone: true}}, true},
		{[]api.Change{{Key: "a", Value: "x", Gone: true}}, false},
	} {
		if got := AllowedBatch(c.batch); got != c.want {
			t.Errorf("batch %d: %v", i, got)
		}
	}
}

func equal(a, b Manifest) bool {
	return a.Next == b.Next && a.Last == b.Last && a.Log == b.Log && a.Base == b.Base && slices.Equal(a.Runs, b.Runs)
}

func TestManifest(t *testing.T) { // example 1
	b := Manifest{Next: 2, Log: 1}.Frame()
	held := strings.Repeat("\x00", 7) + "\x02" + strings.Repeat("\x00", 8) + first + strings.Repeat("\x00", 10)
	if string(b) != string(frame.Make([]byte(held))) || len(b) != 8+34 {
		t.Errorf("frame %x", b)
	}
	for _, m := range []Manifest{
		{Next: 2, Log: 1},
		{Next: 9, Last: 7, Log: 8, Base: 3, Runs: []int{7, 5, 6}},
		{Next: api.MaxNumber, Last: api.MaxBatches, Log: api.MaxNumber - 1, Base: 1},
	} {
		if got, err := ReadManifest(m.Frame()); err != nil || !equal(got, m) {
			t.Errorf("%v read as %v, %v", m, got, err)
		}
	}
}

func TestManifestWrong(t *testing.T) {
	for _, m := range []Manifest{
		{}, {Next: 2}, {Next: 1, Log: 1}, {Next: 2, Log: 2}, {Next: 2, Log: -1},
		{Next: api.MaxNumber + 1, Log: 1}, {Next: -1, Log: 1},
		{Next: 2, Last: api.MaxBatches + 1, Log: 1}, {Next: 2, Last: -1, Log: 1},
		{Next: 9, Log: 1, Base: 1}, {Next: 9, Log: 1, Base: 9},
		{Next: 9, Log: 1, Runs: []int{0}}, {Next: 9, Log: 1, Runs: []int{9}}, {Next: 9, Log: 1, Runs: []int{1}},
		{Next: 9, Log: 1, Runs: []int{4, 3, 4}}, {Next: 9, Log: 1, Base: 3, Runs: []int{4, 3}},
	} {
		if got, err := ReadManifest(m.Frame()); !errors.Is(err, fault.ErrValue) || !equal(got, Manifest{}) {
			t.Errorf("%v read as %v, %v", m, got, err)
		}
	}
	good := Manifest{Next: 9, Log: 1, Runs: []int{4, 3}}.Frame()
	for n := range len(good) {
		if _, err := ReadManifest(good[:n]); !errors.Is(err, fault.ErrShort) {
			t.Errorf("%d bytes: %v", n, err)
		}
		if n < 8 {
			continue
		}
		if _, err := ReadManifest(frame.Make(good[8:n])); !errors.Is(err, fault.ErrShort) {
			t.Errorf("a frame of %d bytes: %v", n-8, err)
		}
	}
	if _, err := ReadManifest(append(good, 0)); !errors.Is(err, fault.ErrTail) {
		t.Errorf("a byte behind the frame: %v", err)
	}
	if _, err := ReadManifest(frame.Make(append(good[8:], 0))); !errors.Is(err, fault.ErrTail) {
		t.Errorf("a byte more in the frame: %v", err)
	}
}

func TestFiles(t *testing.T) {
	for _, c := range []struct {
		m       Manifest
		files   []string
		settled []int
	}{
		{Manifest{Next: 20, Log: 12}, []string{"log-12"}, nil},
		{Manifest{Next: 20, Log: 12, Base: 3}, []string{"run-3", "log-12"}, []int{3}},
		{Manifest{Next: 20, Log: 12, Runs: []int{9, 7}}, []string{"run-9", "run-7", "log-12"}, []int{9, 7}},
		{Manifest{Next: 20, Log: 12, Base: 8, Runs: []int{9, 7}}, []string{"run-9", "run-7", "run-8", "log-12"}, []int{9, 7, 8}},
	} {
		if got := c.m.Files(); !slices.Equal(got, c.files) {
			t.Errorf("Files = %q, want %q", got, c.files)
		}
		if got := c.m.Settled(); !slices.Equal(got, c.settled) {
			t.Errorf("Settled = %v, want %v", got, c.settled)
		}
	}
	m := Manifest{Next: 20, Log: 12, Base: 8, Runs: make([]int, 2, 9)}
	m.Settled()[0] = 5
	if m.Runs[0] != 0 || m.Runs[:3][2] != 0 {
		t.Errorf("Settled shares memory with the manifest: %v", m.Runs[:3])
	}
}

func TestTakeNumber(t *testing.T) {
	m := Manifest{Next: api.MaxNumber - 1}
	if n, err := m.TakeNumber(); n != api.MaxNumber-1 || err != nil || m.Next != api.MaxNumber {
		t.Errorf("TakeNumber = %d, %v; next %d", n, err, m.Next)
	}
	if n, err := m.TakeNumber(); n != 0 || !errors.Is(err, fault.ErrFull) || m.Next != api.MaxNumber {
		t.Errorf("TakeNumber = %d, %v; next %d", n, err, m.Next)
	}
}
