package cat

import (
	"maps"
	"slices"

	"kist/api"
)

// Has reports whether a key exists.
func (c *Catalog) Has(key string) bool {
	if c == nil {
		return false
	}
	_, placed := c.entries[key]
	return placed || c.stagedAt(key) >= 0
}

// Keys returns all existing keys, sorted.
func (c *Catalog) Keys() []string {
	if c == nil {
		return nil
	}
	keys := slices.AppendSeq(c.Staged(), maps.Keys(c.entries))
	slices.Sort(keys)
	return keys
}

// Staged returns the keys of the staged blobs, oldest first.
func (c *Catalog) Staged() []string {
	if c == nil {
		return nil
	}
	var keys []string
	for _, b := range c.staged {
		keys = append(keys, b.key)
	}
	return keys
}

// Data returns the bytes of a staged blob, and whether there is one.
func (c *Catalog) Data(key string) ([]byte, bool) {
	at := c.stagedAt(key)
	if at < 0 {
		return nil, false
	}
	return slices.Clone(c.staged[at].data), true
}

// stagedAt returns where a blob is among the staged ones, or -1.
func (c *Catalog) stagedAt(key string) int {
	if c == nil {
		return -1
	}
	return slices.IndexFunc(c.staged, func(b blob) bool { return b.key == key })
}

// Used returns the number of bytes of the staged blobs.
func (c *Catalog) Used() int {
	if c == nil {
		return 0
	}
	used := 0
	for _, b := range c.staged {
		used += len(b.data)
	}
	return used
}

// Entry returns the entry of a key, and whether there is one.
func (c *Catalog) Entry(key string) (api.Entry, bool) {
	if c == nil {
		return api.Entry{}, false
	}
	e, ok := c.entries[key]
	e.Places = slices.Clone(e.Places)
	return e, ok
}

// Entries returns all entries, sorted by key.
func (c *Catalog) Entries() []api.Entry {
	if c == nil {
		return nil
	}
	var entries []api.Entry
	for _, key := range slices.Sorted(maps.Keys(c.entries)) {
		e, _ := c.Entry(key)
		entries = append(entries, e)
	}
	return entries
}

// Tombs returns all tombstones as notes, oldest first.
func (c *Catalog) Tombs() []api.Note {
	if c == nil {
		return nil
	}
	var notes []api.Note
	for _, t := range c.tombs {
		notes = append(notes, api.Note{Kind: api.NoteTomb, Key: t.key, Gen: t.gen, Size: 1})
	}
	return notes
}

// Retired reports whether cartridge n is retired.
func (c *Catalog) Retired(n int) bool {
	if c == nil {
		return false
	}
	_, retired := c.retired[n]
	return retired
}

// Gen returns the greatest Gen that was given out.
func (c *Catalog) Gen() int {
	if c == nil {
		return 0
	}
	return c.gen
}
