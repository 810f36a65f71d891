// Package layout: what stands in the store's files: entries, batches, runs, the manifest; and the files' names.
package layout

import (
	"sediment/api"
	"sediment/fault"
	"sediment/frame"
)

const (
	kindValue = 1
	kindGone  = 2
)

// allowed tells whether a change has a key and a value that may be.
func allowed(c api.Change) bool {
	if len(c.Key) < 1 || len(c.Key) > api.MaxKey {
		return false
	}
	return len(c.Value) <= api.MaxValue && !(c.Gone && c.Value != "")
}

func appendText(b []byte, s string) []byte {
	return append(append(b, byte(len(s))), s...)
}

func appendEntry(b []byte, c api.Change) []byte {
	if c.Gone {
		return appendText(append(b, kindGone), c.Key)
	}
	return appendText(appendText(append(b, kindValue), c.Key), c.Value)
}

// appendEntries puts entries behind b, and how many they are ahead of them.
func appendEntries(b []byte, entries []api.Change) []byte {
	b = append(b, byte(len(entries)))
	for _, c := range entries {
		b = appendEntry(b, c)
	}
	return b
}

func readEntry(r *frame.Reader) (api.Change, error) {
	kind, err := r.Number(1)
	if err != nil {
		return api.Change{}, fault.At("kind", err)
	}
	if kind != kindValue && kind != kindGone {
		return api.Change{}, fault.At("kind", fault.ErrValue)
	}
	c := api.Change{Gone: kind == kindGone}
	c.Key, err = r.Text()
	if err != nil {
		return api.Change{}, fault.At("key", err)
	}
	if !c.Gone {
		c.Value, err = r.Text()
		if err != nil {
			return api.Change{}, fault.At("value", err)
		}
	}
	if !allowed(c) {
		return api.Change{}, fault.ErrValue
	}
	return c, nil
}

// readEntries reads how many entries there are, 1 to most, and these, behind which nothing may stand.
func readEntries(r *frame.Reader, most uint64) ([]api.Change, error) {
	count, err := r.Number(1)
	if err != nil {
		return nil, fault.At("count of entries", err)
	}
	if count < 1 || count > most {
		return nil, fault.At("count of entries", fault.ErrValue)
	}
	var entries []api.Change
	for range count {
		c, err := readEntry(r)
		if err != nil {
			return nil, fault.At("entry", err)
		}
		entries = append(entries, c)
	}
	if err := r.End(); err != nil {
		return nil, fault.At("entries", err)
	}
	return entries, nil
}
