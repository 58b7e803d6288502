package silo

import (
	"silo/api"
	"silo/table"
)

// levels holds the entries of a store.
type levels struct {
	memory table.Memory
}

// seen tells the value that is seen of the key at the batch number seq.
func (l *levels) seen(key string, seq int) (string, bool) {
	entry, ok := l.memory.Find(key, seq)
	if !ok || entry.Gone {
		return "", false
	}
	return entry.Value, true
}

// seenFrom tells the first most keys from a text on of which something is seen at the batch number seq.
func (l *levels) seenFrom(from string, most int, seq int) []api.Pair {
	var pairs []api.Pair
	key, ok := l.memory.KeyFrom(from)
	for ok && len(pairs) < most {
		if value, is := l.seen(key, seq); is {
			pairs = append(pairs, api.Pair{Key: key, Value: value})
		}
		key, ok = l.memory.KeyFrom(behind(key))
	}
	return pairs
}

// behind tells the least of the texts that are greater than key.
func behind(key string) string { return key + "\x00" }
