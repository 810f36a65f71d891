package layer

import (
	"slices"
	"testing"

	"sediment/api"
)

// gathered is all that comes of entries, which must not fail.
func gathered(t *testing.T, entries Entries) []api.Change {
	t.Helper()
	l, err := Gather(entries, "")
	if err != nil {
		t.Errorf("gathered: %v", err)
	}
	return l
}

func TestMemory(t *testing.T) {
	var m Memory
	for _, c := range []api.Change{{Key: "b", Value: "1"}, {Key: "a", Value: "2"}, {Key: "c", Value: "3"}, {Key: "b", Value: "4"}, {Key: "ab"}, {Key: "c", Gone: true}, {Key: "\xff", Gone: true}} {
		m.Put(c)
	}
	want := []api.Change{{Key: "a", Value: "2"}, {Key: "ab"}, {Key: "b", Value: "4"}, {Key: "c", Gone: true}, {Key: "\xff", Gone: true}}
	for key, at := range map[string]int{"": 0, "a": 0, "aa": 1, "ab": 1, "b": 2, "c": 3, "d": 4, "\xff": 4, "\xff\x00": 5} {
		if got := gathered(t, m.From(key)); !slices.Equal(got, want[at:]) {
			t.Errorf("From(%q) = %v", key, got)
		}
	}
	for c := range m.From("ab") {
		if c.Key != "ab" {
			t.Errorf("%v came behind a break", c)
		}
		break
	}
}

func TestEmptyMemory(t *testing.T) {
	var m Memory
	for c := range m.From("") {
		t.Errorf("an empty memory has %v", c)
	}
}
