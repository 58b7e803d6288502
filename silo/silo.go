// Package silo: an ordered store that is written by many at once, laid down in layers and merged: see DOC.md.
package silo

import (
	"silo/api"
	"silo/batch"
	"silo/table"
)

// Store is one store.
type Store struct {
	levels
	journal
	snapshots
	last int // the number of the last batch
}

// New makes a store (P3).
func New() *Store { return &Store{} }

// Write writes a batch (P4).
func (s *Store) Write(pairs []api.Pair, sync bool) (int, api.Errno) {
	if err := batch.Check(pairs); err != api.OK {
		return 0, err
	}
	s.write(batch.Settle(pairs))
	if sync {
		s.syncAll()
	}
	return s.last, api.OK
}

// write takes a batch's settled pairs in, under the next number.
func (s *Store) write(settled []api.Pair) {
	s.last++
	s.addRecord(batch.Record(settled))
	s.memory.Lay(batch.Entries(settled, s.last))
}

// Get tells the value of a key (P5).
func (s *Store) Get(key string, at int) (string, api.Errno) {
	if !batch.IsKey(key) {
		return "", api.ErrKey
	}
	seq, ok := s.seqAt(at)
	if !ok {
		return "", api.ErrSnap
	}
	value, ok := s.seen(key, seq)
	if !ok {
		return "", api.ErrNone
	}
	return value, api.OK
}

// Scan tells keys in order, with their values (P6).
func (s *Store) Scan(from string, most int, at int) ([]api.Pair, api.Errno) {
	seq, ok := s.seqAt(at)
	if !ok {
		return nil, api.ErrSnap
	}
	if most < 0 {
		return nil, api.ErrArg
	}
	return s.seenFrom(from, most, seq), api.OK
}

// seqAt tells the batch number at which is seen: the latest (at 0), or a snapshot's.
func (s *Store) seqAt(at int) (int, bool) {
	if at == 0 {
		return s.last, true
	}
	return s.snapSeq(at)
}

// Snap makes a snapshot (P7).
func (s *Store) Snap() (int, api.Errno) {
	if s.isFull() {
		return 0, api.ErrFull
	}
	return s.addSnap(s.last), api.OK
}

// Drop lets a snapshot go (P7).
func (s *Store) Drop(at int) api.Errno {
	if !s.dropSnap(at) {
		return api.ErrSnap
	}
	return api.OK
}

// Flush lays down what was written (P8).
func (s *Store) Flush() api.Errno {
	if !s.hasRecords() {
		return api.ErrEmpty
	}
	s.layDown(s.snapSeqs())
	s.journal = journal{ahead: s.last}
	return api.OK
}

// Merge merges a level into the next (P9).
func (s *Store) Merge(level int) api.Errno {
	if level < 0 || level >= api.LastLevel {
		return api.ErrArg
	}
	if !s.hasTable(level) {
		return api.ErrEmpty
	}
	s.merge(level, s.snapSeqs())
	return api.OK
}

// Tables tells what was laid down (P10).
func (s *Store) Tables() []api.Table { return s.tellLaid() }

// Journal tells the bytes that were written since the last Flush (P11).
func (s *Store) Journal() string { return string(s.records) }

// Load makes a store out of a journal's bytes (P12).
func Load(journal string) (*Store, int, api.Errno) {
	s := New()
	end := s.restore(journal)
	if end < len(journal) {
		return s, end, api.ErrTorn
	}
	return s, end, api.OK
}

// restore begins anew behind what was laid down, with the whole records that the text begins with, and tells where they end.
func (s *Store) restore(text string) int {
	batches, end := batch.ReadAll(text)
	var entries []api.Entry
	for i, settled := range batches {
		entries = append(entries, batch.Entries(settled, s.ahead+1+i)...)
	}
	s.last = s.ahead + len(batches)
	s.memory = table.NewMemory(entries)
	s.hold(text[:end])
	return end
}

// Crash loses what does not last (P13).
func (s *Store) Crash(keep int) {
	s.dropAllSnaps()
	s.restore(s.outlasting(keep))
}
