package table

import (
	"iter"
	"slices"

	"silo/api"
)

// keepNeeded leaves the entries that are needed on the table's level. They are a new list, for the run may be that of a table that stays.
func (t *Laid) keepNeeded(seqs []int) {
	var kept []api.Entry
	for entries := range eachKey(t.entries) {
		needed := seenBySome(entries, seqs)
		if t.Level == api.LastLevel {
			needed = withoutLastGone(needed)
		}
		kept = append(kept, needed...)
	}
	t.entries = kept
}

// eachKey goes through the entries of a run key by key.
func eachKey(entries []api.Entry) iter.Seq[[]api.Entry] {
	return func(yield func([]api.Entry) bool) {
		for rest := entries; len(rest) > 0; {
			end := 1
			for end < len(rest) && rest[end].Key == rest[0].Key {
				end++
			}
			if !yield(rest[:end]) {
				return
			}
			rest = rest[end:]
		}
	}
}

// seenBySome tells, of one key's entries, the first and those that a snapshot sees.
func seenBySome(entries []api.Entry, seqs []int) []api.Entry {
	seen := []api.Entry{entries[0]}
	for i, entry := range entries[1:] {
		if hasWithin(seqs, entry.Seq, entries[i].Seq) {
			seen = append(seen, entry)
		}
	}
	return seen
}

// hasWithin tells whether one of seqs is at least from and below to.
func hasWithin(seqs []int, from, to int) bool {
	return slices.ContainsFunc(seqs, func(seq int) bool { return from <= seq && seq < to })
}

// withoutLastGone leaves out the deletions behind which nothing of their key stands: on LastLevel there is nothing left that they hide.
func withoutLastGone(entries []api.Entry) []api.Entry {
	for len(entries) > 0 && entries[len(entries)-1].Gone {
		entries = entries[:len(entries)-1]
	}
	return entries
}
