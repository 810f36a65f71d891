package layer

import (
	"container/heap"
	"strings"

	"sediment/api"
)

// source: what is still to come of a layer that is being merged; never empty in the heap.
type source struct {
	entries []api.Change
	age     int // 0: the newest layer
}

// sources: a heap; at its top the lowest key and, of the layers that have it, the newest.
type sources []source

func (h sources) Len() int { return len(h) }

func (h sources) Less(i, j int) bool {
	if c := strings.Compare(h[i].entries[0].Key, h[j].entries[0].Key); c != 0 {
		return c < 0
	}
	return h[i].age < h[j].age
}

func (h sources) Swap(i, j int) { h[i], h[j] = h[j], h[i] }

// Push and Pop are for package heap alone.
func (h *sources) Push(x any) { *h = append(*h, x.(source)) }

func (h *sources) Pop() any {
	last := len(*h) - 1
	x := (*h)[last]
	*h = (*h)[:last]
	return x
}

// next takes the entry at the top.
func (h *sources) next() api.Change {
	top := &(*h)[0]
	c := top.entries[0]
	top.entries = top.entries[1:]
	if len(top.entries) > 0 {
		heap.Fix(h, 0)
	} else {
		heap.Pop(h)
	}
	return c
}

// merged: layers, the newest first, up to a key.
type merged struct {
	layers []Entries
	to     string
}

// Merge goes through the entries of layers, the newest layer first among these, whose keys are below to (if it is empty, through all): of each key the newest one, also if it is gone.
func Merge(layers []Entries, to string) Entries {
	return merged{layers, to}.each
}

// open all layers. They are gathered up to the end: an iterator that is ranged over can't be left in the middle and taken up again, and no disk holds more than MaxDisk bytes.
func (m merged) open() (*sources, error) {
	h := &sources{}
	for age, layer := range m.layers {
		l, err := Gather(layer, m.to)
		if err != nil {
			return nil, err
		}
		if len(l) > 0 {
			heap.Push(h, source{l, age})
		}
	}
	return h, nil
}

func (m merged) each(yield func(api.Change, error) bool) {
	h, err := m.open()
	if err != nil {
		yield(api.Change{}, err)
		return
	}
	last := "" // which no key is
	for h.Len() > 0 {
		c := h.next()
		if c.Key == last {
			continue // a newer layer hides it
		}
		last = c.Key
		if !yield(c, nil) {
			return
		}
	}
}
