package layer

import (
	"slices"
	"strings"

	"sediment/api"
)

// Memory: the newest layer, what the log's batches come to. What is gone keeps an entry, since it hides what lies in older layers.
type Memory struct {
	entries []api.Change // keys rising
}

func compareKey(c api.Change, key string) int { return strings.Compare(c.Key, key) }

// Put an entry in, over an older one of its key.
func (m *Memory) Put(c api.Change) {
	// Copies, lest a short key keep alive the long text that it is a piece of.
	c.Key, c.Value = strings.Clone(c.Key), strings.Clone(c.Value)
	at, found := slices.BinarySearchFunc(m.entries, c.Key, compareKey)
	if found {
		m.entries[at] = c
		return
	}
	m.entries = slices.Insert(m.entries, at, c)
}

// From goes through the entries whose keys are not below this one.
func (m *Memory) From(key string) Entries {
	at, _ := slices.BinarySearchFunc(m.entries, key, compareKey)
	return list(m.entries[at:]).each
}

// list of entries, which can't fail.
type list []api.Change

func (l list) each(yield func(api.Change, error) bool) {
	for _, c := range l {
		if !yield(c, nil) {
			return
		}
	}
}
