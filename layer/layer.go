// Package layer: the layers that a store's entries lie in, gone through by iterators, and merged.
package layer

import (
	"iter"

	"sediment/api"
)

// Entries of a layer, from some key on, keys rising. Where they can't be read, an error comes as the last of them.
type Entries = iter.Seq2[api.Change, error]

// Find a key's entry in the first of the layers that has one. They are gone through from that key on, so only their first entries are asked for, and a layer behind one that has the key is not asked at all.
func Find(layers []Entries, key string) (api.Change, bool, error) {
	for _, layer := range layers {
		for c, err := range layer {
			if err != nil {
				return api.Change{}, false, err
			}
			if c.Key == key {
				return c, true, nil
			}
			break
		}
	}
	return api.Change{}, false, nil
}

// Gather the entries whose keys are below to; if it is empty, all.
func Gather(layer Entries, to string) ([]api.Change, error) {
	var l []api.Change
	for c, err := range layer {
		if err != nil {
			return nil, err
		}
		if to != "" && c.Key >= to {
			break
		}
		l = append(l, c)
	}
	return l, nil
}
