package frame

import (
	"bytes"
	"errors"
	"hash/crc32"
	"slices"
	"strings"
	"testing"

	"sediment/fault"
)

// Both ways come to the same sums, whichever of them is asked first.
func TestSum(t *testing.T) {
	if got := Sum([]byte("123456789")); got != 0xe3069283 {
		t.Errorf("Sum = %x", got)
	}
	if got := TableSum([]byte("123456789")); got != 0xe3069283 {
		t.Errorf("TableSum = %x", got)
	}
	for i := range 256 {
		wantSums(t, []byte{byte(i)})
	}
	var b []byte
	for i := range 600 {
		wantSums(t, b)
		b = append(b, byte(i*i+i>>3))
	}
	for _, s := range []string{"", "\x00", strings.Repeat("\x00", 32), strings.Repeat("\xff", 32), "sediment", strings.Repeat("layers settle ", 5000)} {
		wantSums(t, []byte(s))
	}
}

func wantSums(t *testing.T, b []byte) {
	t.Helper()
	want := crc32.Checksum(b, crc32.MakeTable(crc32.Castagnoli))
	if got := Sum(b); got != want {
		t.Errorf("Sum of %d bytes = %x, want %x", len(b), got, want)
	}
	if got := TableSum(b); got != want {
		t.Errorf("TableSum of %d bytes = %x, want %x", len(b), got, want)
	}
}

func TestAppendNumber(t *testing.T) {
	for _, c := range []struct {
		v    uint64
		n    int
		want string
	}{{1, 8, "\x00\x00\x00\x00\x00\x00\x00\x01"}, {0x0102030405060708, 8, "\x01\x02\x03\x04\x05\x06\x07\x08"}, {1<<64 - 1, 8, strings.Repeat("\xff", 8)}, {0xabcd, 2, "\xab\xcd"}, {7, 1, "\x07"}, {7, 0, ""}} {
		got := AppendNumber([]byte("x"), c.v, c.n)
		if string(got) != "x"+c.want {
			t.Errorf("%d in %d bytes: %x", c.v, c.n, got)
		}
		r := NewReader([]byte(c.want))
		if v, err := r.Number(c.n); err != nil || c.n > 0 && v != c.v || r.End() != nil {
			t.Errorf("%x read as %d, %v", c.want, v, err)
		}
	}
}

func TestMake(t *testing.T) {
	if got := Make(nil); !slices.Equal(got, make([]byte, 8)) {
		t.Errorf("the empty frame is %x", got)
	}
	if got := Make([]byte("123456789")); string(got) != "\x00\x00\x00\x09\xe3\x06\x92\x83123456789" {
		t.Errorf("frame is %x", got)
	}
}

func TestTake(t *testing.T) {
	long := bytes.Repeat([]byte("sediment"), 9000)
	for _, held := range [][]byte{nil, []byte("x"), long} {
		got, rest, err := Take(append(Make(held), "behind"...))
		if err != nil || !bytes.Equal(got, held) || string(rest) != "behind" {
			t.Errorf("of %d bytes: %d, %q, %v", len(held), len(got), rest, err)
		}
	}
}

func TestTakeWrong(t *testing.T) {
	good := string(Make([]byte("some bytes")))
	for n := range len(good) {
		if _, _, err := Take([]byte(good[:n])); !errors.Is(err, fault.ErrShort) {
			t.Errorf("%d bytes: %v", n, err)
		}
	}
	for at := 4; at < len(good); at++ {
		bad := []byte(good)
		bad[at] ^= 0x10
		held, rest, err := Take(bad)
		if !errors.Is(err, fault.ErrSum) || held != nil || rest != nil {
			t.Errorf("wrong at %d: %q, %q, %v", at, held, rest, err)
		}
	}
	for _, length := range []string{"\x7f\xff\xff\xff", "\xff\xff\xff\xff", "\x80\x00\x00\x00", "\x00\x00\x00\x0b"} {
		if _, _, err := Take([]byte(length + good[4:])); !errors.Is(err, fault.ErrShort) {
			t.Errorf("length %x: %v", length, err)
		}
	}
}

func TestText(t *testing.T) {
	r := NewReader([]byte("\x03abc\x00\x02d"))
	for _, want := range []string{"abc", ""} {
		if got, err := r.Text(); got != want || err != nil {
			t.Errorf("Text = %q, %v, want %q", got, err, want)
		}
	}
	if got, err := r.Text(); got != "" || !errors.Is(err, fault.ErrShort) {
		t.Errorf("Text = %q, %v", got, err)
	}
	if _, err := NewReader(nil).Text(); !errors.Is(err, fault.ErrShort) {
		t.Errorf("Text of nothing: %v", err)
	}
	if err := NewReader([]byte("x")).End(); !errors.Is(err, fault.ErrTail) {
		t.Errorf("End: %v", err)
	}
}

func TestTakeWhole(t *testing.T) {
	good := Make([]byte("some bytes"))
	if held, err := TakeWhole(good); string(held) != "some bytes" || err != nil {
		t.Errorf("TakeWhole = %q, %v", held, err)
	}
	if held, err := TakeWhole(append(good, 0)); held != nil || !errors.Is(err, fault.ErrTail) {
		t.Errorf("with a byte behind: %q, %v", held, err)
	}
	if held, err := TakeWhole(good[:len(good)-1]); held != nil || !errors.Is(err, fault.ErrShort) {
		t.Errorf("without its last byte: %q, %v", held, err)
	}
}
