package sediment_test

import (
	"strings"
	"testing"

	"sediment/api"
	"sediment/disk"
	"sediment/sediment"
)

// What Sum tells, by its table, is what the calls write by their own way.
func TestSum(t *testing.T) {
	if got := sediment.Sum([]byte("123456789")); got != 0xe3069283 {
		t.Errorf("Sum = %x", got)
	}
	if got := sediment.Sum(nil); got != 0 {
		t.Errorf("Sum of nothing = %x", got)
	}
	d := disk.New()
	s := open(t, d)
	for i := range 256 {
		b := []byte{byte(i)}
		if got, want := number(int(sediment.Sum(b)), 4), frame(string(b))[4:8]; got != want {
			t.Errorf("Sum of byte %d = %x, want %x", i, got, want)
		}
	}
	for _, value := range []string{"", "v", "\x00", strings.Repeat("\xff", api.MaxValue)} {
		write(t, s, set("a", value))
	}
	wantErrno(t, s.Flush(), api.OK)
	write(t, s, gone("a"))
	for _, name := range []string{"log-3", "manifest"} {
		b, _ := d.Peek(name)
		if got := number(int(sediment.Sum(b[8:])), 4); got != string(b[4:8]) {
			t.Errorf("the sum in %s is %x, Sum tells %x", name, b[4:8], got)
		}
	}
}
