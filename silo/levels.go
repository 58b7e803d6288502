package silo

import (
	"slices"

	"silo/api"
	"silo/table"
)

// levels holds the entries of a store.
type levels struct {
	memory table.Memory
	laid   []table.Laid // level by level, and on level 0 the one that was laid down last first
}

// seen tells the value that is seen of the key at the batch number seq.
func (l *levels) seen(key string, seq int) (string, bool) {
	entry, ok := l.find(key, seq)
	if !ok || entry.Gone {
		return "", false
	}
	return entry.Value, true
}

// find tells, of the entries of the key, the one with the greatest Seq that is not above seq.
func (l *levels) find(key string, seq int) (api.Entry, bool) {
	entry, ok := l.memory.Find(key, seq)
	// What is laid down and merged goes behind what came later, so the first table that has one has the greatest Seq.
	for i := 0; !ok && i < len(l.laid); i++ {
		entry, ok = l.laid[i].Find(key, seq)
	}
	return entry, ok
}

// seenFrom tells the first most keys from a text on of which something is seen at the batch number seq.
func (l *levels) seenFrom(from string, most int, seq int) []api.Pair {
	var pairs []api.Pair
	key, ok := l.keyFrom(from)
	for ok && len(pairs) < most {
		if value, is := l.seen(key, seq); is {
			pairs = append(pairs, api.Pair{Key: key, Value: value})
		}
		key, ok = l.keyFrom(behind(key))
	}
	return pairs
}

// keyFrom tells the least key of all tables that is not less than from.
func (l *levels) keyFrom(from string) (string, bool) {
	least, ok := l.memory.KeyFrom(from)
	for i := range l.laid {
		if key, has := l.laid[i].KeyFrom(from); has && (!ok || key < least) {
			least, ok = key, true
		}
	}
	return least, ok
}

// behind tells the least of the texts that are greater than key.
func behind(key string) string { return key + "\x00" }

// layDown makes a table on level 0 of what is needed of the table in memory, where snapshots see at seqs.
func (l *levels) layDown(seqs []int) {
	l.laid = slices.Insert(l.laid, 0, l.memory.Down(seqs))
	l.memory = table.Memory{}
}

// hasTable tells whether there is a table on the level.
func (l *levels) hasTable(level int) bool {
	return l.start(level) < l.start(level+1)
}

// merge makes one table on the next level of what is needed of the level and the next one, where snapshots see at seqs.
func (l *levels) merge(level int, seqs []int) {
	start, end := l.start(level), l.start(level+2)
	merged := table.Merge(l.laid[start:end], level+1, seqs)
	l.laid = slices.Delete(l.laid, start, end)
	if !merged.IsEmpty() {
		l.laid = slices.Insert(l.laid, start, merged)
	}
}

// start tells where the tables of the level, and of those behind it, begin.
func (l *levels) start(level int) int {
	at := slices.IndexFunc(l.laid, func(laid table.Laid) bool { return laid.Level >= level })
	if at < 0 {
		return len(l.laid)
	}
	return at
}

// tellLaid gives out the tables that were laid down.
func (l *levels) tellLaid() []api.Table {
	tables := make([]api.Table, 0, len(l.laid))
	for i := range l.laid {
		tables = append(tables, l.laid[i].Tell())
	}
	return tables
}
