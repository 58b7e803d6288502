// Package batch: what a batch is: which lists of pairs are one, which of its pairs count, and the bytes of its record.
package batch

import (
	"slices"
	"strings"

	"silo/api"
)

// Check tells whether the pairs are a batch, or the first reason why not (P4).
func Check(pairs []api.Pair) api.Errno {
	// Each fault is looked for in all pairs ahead of the next fault: the one that P4 names first is the answer, wherever it stands.
	switch {
	case len(pairs) == 0 || len(pairs) > api.MaxPairs:
		return api.ErrMany
	case slices.ContainsFunc(pairs, hasNoKey):
		return api.ErrKey
	case slices.ContainsFunc(pairs, isLong):
		return api.ErrLong
	case slices.ContainsFunc(pairs, isGoneWithValue):
		return api.ErrArg
	}
	return api.OK
}

// IsKey tells whether a text is a key.
func IsKey(text string) bool {
	return len(text) >= 1 && len(text) <= api.MaxKey
}

func hasNoKey(pair api.Pair) bool { return !IsKey(pair.Key) }

func isLong(pair api.Pair) bool { return len(pair.Value) > api.MaxValue }

func isGoneWithValue(pair api.Pair) bool { return pair.Gone && pair.Value != "" }

// Settle tells the pairs of a batch that count, in the order of their keys.
func Settle(pairs []api.Pair) []api.Pair {
	settled := make([]api.Pair, 0, len(pairs))
	for i, pair := range pairs {
		if !hasKey(pairs[i+1:], pair.Key) {
			settled = append(settled, own(pair))
		}
	}
	slices.SortFunc(settled, byKey)
	return settled
}

func hasKey(pairs []api.Pair, key string) bool {
	for _, pair := range pairs {
		if pair.Key == key {
			return true
		}
	}
	return false
}

// own copies the texts, for they may be pieces of greater ones that would be kept with them.
func own(pair api.Pair) api.Pair {
	return api.Pair{Key: strings.Clone(pair.Key), Value: strings.Clone(pair.Value), Gone: pair.Gone}
}

func byKey(a, b api.Pair) int { return strings.Compare(a.Key, b.Key) }

// Entries tells what the batch with this number makes of its settled pairs.
func Entries(settled []api.Pair, seq int) []api.Entry {
	entries := make([]api.Entry, 0, len(settled))
	for _, pair := range settled {
		entries = append(entries, api.Entry{Key: pair.Key, Seq: seq, Gone: pair.Gone, Value: pair.Value})
	}
	return entries
}
