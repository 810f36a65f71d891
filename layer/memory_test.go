package layer

import (
	"slices"
	"testing"

	"sediment/api"
)

func TestMemory(t *testing.T) {
	var m Memory
	for _, c := range []api.Change{{Key: "b", Value: "1"}, {Key: "a", Value: "2"}, {Key: "c", Value: "3"}, {Key: "b", Value: "4"}, {Key: "ab"}, {Key: "c", Gone: true}, {Key: "\xff", Gone: true}} {
		m.Put(c)
	}
	want := []api.Change{{Key: "a", Value: "2"}, {Key: "ab"}, {Key: "b", Value: "4"}, {Key: "c", Gone: true}, {Key: "\xff", Gone: true}}
	for key, at := range map[string]int{"": 0, "a": 0, "aa": 1, "ab": 1, "b": 2, "c": 3, "d": 4, "\xff": 4, "\xff\x00": 5} {
		if got := slices.Collect(m.From(key)); !slices.Equal(got, want[at:]) {
			t.Errorf("From(%q) = %v", key, got)
		}
	}
	for _, c := range want {
		if got, found := m.Find(c.Key); got != c || !found {
			t.Errorf("Find(%q) = %v, %v", c.Key, got, found)
		}
	}
	if got, found := m.Find("aa"); got != (api.Change{}) || found {
		t.Errorf("Find = %v, %v", got, found)
	}
}

func TestEmptyMemory(t *testing.T) {
	var m Memory
	if _, found := m.Find(""); found {
		t.Error("something is found in an empty memory")
	}
	for c := range m.From("") {
		t.Errorf("an empty memory has %v", c)
	}
}
