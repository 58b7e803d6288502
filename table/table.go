// Package table: the tables that hold a store's entries. Every kind of them is a run of entries in order, and embeds it.
package table

import (
	"cmp"
	"math"
	"slices"
	"strings"

	"silo/api"
)

// run holds entries in the order of their keys, and of one key the greatest Seq first.
type run struct {
	entries []api.Entry
}

// Memory is the table in memory.
type Memory struct {
	run
}

// Laid is a table that was laid down.
type Laid struct {
	run
	Level int
}

// NewMemory makes a table in memory of entries that are in whichever order. They are put in order all at once: laid one by one, each would move those behind it.
func NewMemory(entries []api.Entry) Memory {
	return Memory{run{entries: slices.SortedFunc(slices.Values(entries), order)}}
}

// Down tells what the table in memory is on level 0, where snapshots see at the batch numbers seqs.
func (m *Memory) Down(seqs []int) Laid {
	laid := Laid{run: m.run}
	laid.keepNeeded(seqs)
	return laid
}

// Merge tells what the tables are together, as one table on a level, where snapshots see at the batch numbers seqs.
func Merge(tables []Laid, level int, seqs []int) Laid {
	merged := Laid{Level: level}
	for _, laid := range tables {
		merged.Lay(laid.entries)
	}
	merged.keepNeeded(seqs)
	return merged
}

// IsEmpty tells whether the table has no entry.
func (t *Laid) IsEmpty() bool { return len(t.entries) == 0 }

// Tell gives the table out, in memory of its own.
func (t *Laid) Tell() api.Table {
	return api.Table{Level: t.Level, Entries: slices.Clone(t.entries)}
}

// Find tells, of the entries of the key, the one with the greatest Seq that is not above seq.
func (r *run) Find(key string, seq int) (api.Entry, bool) {
	at := place(r.entries, key, seq)
	if at == len(r.entries) || r.entries[at].Key != key {
		return api.Entry{}, false
	}
	return r.entries[at], true
}

// KeyFrom tells the least key of the run that is not less than from.
func (r *run) KeyFrom(from string) (string, bool) {
	at := place(r.entries, from, math.MaxInt)
	if at == len(r.entries) {
		return "", false
	}
	return r.entries[at].Key, true
}

// Lay lays the entries of another run, that are in order too, together with those of this one.
func (r *run) Lay(entries []api.Entry) {
	end := len(r.entries)
	r.entries = append(r.entries, entries...)
	// From the last entry on, so that each entry that was here is moved at most once, to its final place.
	for i := len(entries) - 1; i >= 0; i-- {
		at := place(r.entries[:end], entries[i].Key, entries[i].Seq)
		copy(r.entries[at+i+1:], r.entries[at:end])
		r.entries[at+i] = entries[i]
		end = at
	}
}

// place tells where the entry of key and seq stands, or would stand if there were one.
func place(entries []api.Entry, key string, seq int) int {
	at, _ := slices.BinarySearchFunc(entries, api.Entry{Key: key, Seq: seq}, order)
	return at
}

func order(a, b api.Entry) int {
	if byKey := strings.Compare(a.Key, b.Key); byKey != 0 {
		return byKey
	}
	return cmp.Compare(b.Seq, a.Seq)
}
