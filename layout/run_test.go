package layout

import (
	"errors"
	"slices"
	"strings"
	"testing"

	"sediment/api"
	"sediment/fault"
	"sediment/frame"
)

// part of a run that is put together by hand.
type part struct {
	entries []api.Change
	first   string
}

// assemble a run of blocks, whatever stands in them; shift moves the places that the footer tells.
func assemble(shift int, parts ...part) string {
	blocks, places := "", ""
	for _, p := range parts {
		b := string([]byte{byte(len(p.entries))})
		for _, c := range p.entries {
			b += string(appendEntry(nil, c))
		}
		places += string(frame.AppendNumber(nil, uint64(len(blocks)+shift), 4)) + string(appendText(nil, p.first))
		blocks += string(frame.Make([]byte(b)))
	}
	return finish(blocks, string([]byte{0, byte(len(parts))})+places)
}

// finish blocks with a footer that holds this.
func finish(blocks, footer string) string {
	return blocks + string(frame.Make([]byte(footer))) + string(frame.AppendNumber(nil, uint64(len(blocks)), 4))
}

// some entries: "a", "b", ..
func some(from, n int) []api.Change {
	var l []api.Change
	for i := range n {
		c := api.Change{Key: string(rune('a' + from + i)), Value: strings.Repeat("v", i)}
		if i%3 == 2 {
			c = api.Change{Key: c.Key, Gone: true}
		}
		l = append(l, c)
	}
	return l
}

// readAll reads a run to its end.
func readAll(b string) ([]api.Change, error) {
	r, err := ReadRun([]byte(b))
	if err != nil {
		return nil, err
	}
	var l []api.Change
	for i := range r.Count() {
		block, err := r.Block(i)
		if err != nil {
			return nil, err
		}
		l = append(l, block...)
	}
	return l, nil
}

func TestMakeRun(t *testing.T) { // the run of example 2, among others
	one := "\x00\x00\x00\x06" + string(frame.AppendNumber(nil, uint64(frame.Sum([]byte("\x01\x01\x01a\x011"))), 4)) + "\x01\x01\x01a\x011"
	footer := "\x00\x01\x00\x00\x00\x00\x01a"
	want := one + string(frame.Make([]byte(footer))) + "\x00\x00\x00\x0e"
	if got := MakeRun([]api.Change{{Key: "a", Value: "1"}}); string(got) != want {
		t.Errorf("run %x, want %x", got, want)
	}
	for n, want := range map[int]string{
		1: assemble(0, part{some(0, 1), "a"}),
		3: assemble(0, part{some(0, 3), "a"}),
		4: assemble(0, part{some(0, 4), "a"}),
		5: assemble(0, part{some(0, 5)[:4], "a"}, part{some(0, 5)[4:], "e"}),
		8: assemble(0, part{some(0, 8)[:4], "a"}, part{some(0, 8)[4:], "e"}),
		9: assemble(0, part{some(0, 9)[:4], "a"}, part{some(0, 9)[4:8], "e"}, part{some(0, 9)[8:], "i"}),
	} {
		if got := MakeRun(some(0, n)); string(got) != want {
			t.Errorf("run of %d entries: %x, want %x", n, got, want)
		}
	}
}

func TestRunBack(t *testing.T) {
	for n := 1; n < 20; n++ {
		b := MakeRun(some(0, n))
		if got, err := readAll(string(b)); err != nil || !slices.Equal(got, some(0, n)) {
			t.Errorf("run of %d entries: %v, %v", n, got, err)
		}
	}
}

func TestSeek(t *testing.T) {
	r, err := ReadRun(MakeRun(some(1, 9))) // blocks from "b", "f", "j" on
	if err != nil || r.Count() != 3 {
		t.Fatalf("%d blocks, %v", r.Count(), err)
	}
	for key, want := range map[string]int{"": 0, "a": 0, "b": 0, "c": 0, "ez": 0, "f": 1, "f\x00": 1, "i": 1, "j": 2, "z": 2} {
		if got := r.Seek(key); got != want {
			t.Errorf("Seek(%q) = %d, want %d", key, got, want)
		}
	}
}

func TestRunNames(t *testing.T) {
	if got := RunNames([]int{7, 2000000000}); !slices.Equal(got, []string{"run-7", "run-2000000000"}) {
		t.Errorf("RunNames = %q", got)
	}
}

func TestRunWrong(t *testing.T) {
	a, e := some(0, 4), some(4, 1)
	good := assemble(0, part{a, "a"}, part{e, "e"})
	block, last := string(frame.Make(appendEntries(nil, a))), string(frame.Make(appendEntries(nil, e)))
	both := block + last
	at := string(frame.AppendNumber(nil, uint64(len(block)), 4))
	zero := "\x00\x00\x00\x00"
	for name, c := range map[string]struct {
		run  string
		want error
	}{
		"nothing":                      {"", fault.ErrShort},
		"three bytes":                  {"\x00\x00\x00", fault.ErrShort},
		"a place alone":                {zero, fault.ErrShort},
		"no blocks":                    {assemble(0), fault.ErrValue},
		"a block without entries":      {assemble(0, part{nil, "a"}), fault.ErrValue},
		"five entries in a block":      {assemble(0, part{some(0, 5), "a"}), fault.ErrValue},
		"a block that is not full":     {assemble(0, part{a[:3], "a"}, part{e, "e"}), fault.ErrValue},
		"another first key":            {assemble(0, part{a, "b"}), fault.ErrValue},
		"no first key":                 {assemble(0, part{a, ""}), fault.ErrValue},
		"another first key, the next":  {assemble(0, part{a, "a"}, part{e, "f"}), fault.ErrValue},
		"falling":                      {assemble(0, part{[]api.Change{{Key: "b"}, {Key: "a"}}, "b"}), fault.ErrValue},
		"twice":                        {assemble(0, part{[]api.Change{{Key: "a"}, {Key: "a", Gone: true}}, "a"}), fault.ErrValue},
		"falling over blocks":          {assemble(0, part{some(1, 4), "b"}, part{some(0, 1), "a"}), fault.ErrValue},
		"twice over blocks":            {assemble(0, part{a, "a"}, part{some(3, 1), "d"}), fault.ErrValue},
		"an entry that may not be":     {assemble(0, part{[]api.Change{{Key: ""}}, ""}), fault.ErrValue},
		"a key too long":               {assemble(0, part{[]api.Change{{Key: strings.Repeat("k", 17)}}, strings.Repeat("k", 17)}), fault.ErrValue},
		"a value too long":             {assemble(0, part{[]api.Change{{Key: "k", Value: strings.Repeat("v", 41)}}, "k"}), fault.ErrValue},
		"blocks later than told":       {"\x00" + good, fault.ErrSum},
		"blocks sooner than told":      {assemble(1, part{a, "a"}), fault.ErrValue},
		"the first block left out":     {finish(both, "\x00\x01"+at+"\x01e"), fault.ErrValue},
		"the last block left out":      {finish(both, "\x00\x01"+zero+"\x01a"), fault.ErrTail},
		"a gap ahead of the footer":    {finish(block+"\x00", "\x00\x01"+zero+"\x01a"), fault.ErrTail},
		"a block twice":                {finish(block, "\x00\x02"+zero+"\x01a"+zero+"\x01a"), fault.ErrShort},
		"places falling":               {finish(both, "\x00\x03"+zero+"\x01a"+at+"\x01e"+zero+"\x01f"), fault.ErrValue},
		"a place behind the footer":    {finish(block, "\x00\x02"+zero+"\x01a\xff\xff\xff\xff\x01e"), fault.ErrValue},
		"a place at the footer":        {finish(block, "\x00\x02"+zero+"\x01a"+at+"\x01e"), fault.ErrShort},
		"more blocks than told":        {finish(block, "\x00\x01"+zero+"\x01a"+at+"\x01e"), fault.ErrTail},
		"fewer blocks than told":       {finish(block, "\x00\x02"+zero+"\x01a"), fault.ErrShort},
		"far fewer blocks than told":   {finish(block, "\xff\xff"+zero+"\x01a"), fault.ErrShort},
		"no count of blocks":           {finish(block, "\x00"), fault.ErrShort},
		"a place without a key":        {finish(block, "\x00\x01"+zero), fault.ErrShort},
		"a place with half a key":      {finish(block, "\x00\x01"+zero+"\x02a"), fault.ErrShort},
		"the footer is a block":        {good[:len(good)-4] + zero, fault.ErrTail},
		"the footer is the last block": {both + at, fault.ErrShort},
		"the footer behind the end":    {good[:len(good)-4] + "\xff\xff\xff\xff", fault.ErrValue},
		"the footer at the end":        {good[:len(good)-4] + string(frame.AppendNumber(nil, uint64(len(good)-4), 4)), fault.ErrShort},
		"the footer twice":             {good[:len(good)-4] + good[len(both):], fault.ErrTail},
	} {
		if l, err := readAll(c.run); !errors.Is(err, c.want) || l != nil {
			t.Errorf("%s: %v, %v, want %v", name, l, err, c.want)
		}
	}
}

// A run that is bent in a byte, cut off, or has a byte more is none.
func TestRunBent(t *testing.T) {
	good := MakeRun(some(0, 6))
	for k := range good {
		for _, bit := range []byte{1, 0x10, 0x80, 0xff} {
			b := slices.Clone(good)
			b[k] ^= bit
			if l, err := readAll(string(b)); err == nil {
				t.Errorf("byte %d bent by %x: %v", k, bit, l)
			}
		}
		if l, err := readAll(string(good[:k])); err == nil {
			t.Errorf("cut to %d bytes: %v", k, l)
		}
		if l, err := readAll(string(slices.Insert(slices.Clone(good), k, 0))); err == nil {
			t.Errorf("a byte more at %d: %v", k, l)
		}
	}
	if l, err := readAll(string(good) + "\x00"); err == nil {
		t.Errorf("a byte behind: %v", l)
	}
}
