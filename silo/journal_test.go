package silo

import (
	"testing"

	"silo/api"
)

func TestWriteSyncsTheWholeJournal(t *testing.T) {
	s := New()
	pairs := []api.Pair{{Key: "a", Value: "1"}}
	synced := func(want int) {
		t.Helper()
		if s.synced != want {
			t.Errorf("P4: %d bytes of the journal are synced, want %d", s.synced, want)
		}
	}
	synced(0)
	s.Write(pairs, false)
	s.Write(pairs, false)
	synced(0)
	s.Write(nil, true)
	synced(0)
	s.Write(pairs, true)
	whole := len(s.Journal())
	synced(whole)
	s.Write(pairs, false)
	synced(whole)
	s.Write(pairs, true)
	synced(len(s.Journal()))
}

func TestFlushLeavesNothingSynced(t *testing.T) {
	s := New()
	pairs := []api.Pair{{Key: "a", Value: "1"}}
	s.Write(pairs, true)
	s.Flush()
	s.Write(pairs, false)
	if s.synced != 0 {
		t.Errorf("P8: %d bytes of the journal are synced behind a Flush, want 0", s.synced)
	}
}
