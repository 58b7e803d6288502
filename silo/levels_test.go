package silo_test

import (
	"math"
	"slices"
	"testing"

	"silo/api"
	"silo/silo"
)

// put, del: an entry with a value, and one that is deleted.
func put(key string, seq int, value string) api.Entry {
	return api.Entry{Key: key, Seq: seq, Value: value}
}

func del(key string, seq int) api.Entry { return api.Entry{Key: key, Seq: seq, Gone: true} }

func on(level int, entries ...api.Entry) api.Table {
	return api.Table{Level: level, Entries: entries}
}

func flush(t *testing.T, s *silo.Store, want api.Errno) {
	t.Helper()
	if err := s.Flush(); err != want {
		t.Errorf("P8: Flush() = %d, want %d", err, want)
	}
}

func merge(t *testing.T, s *silo.Store, level int, want api.Errno) {
	t.Helper()
	if err := s.Merge(level); err != want {
		t.Errorf("P9: Merge(%d) = %d, want %d", level, err, want)
	}
}

func equalTables(a, b []api.Table) bool {
	return slices.EqualFunc(a, b, func(a, b api.Table) bool {
		return a.Level == b.Level && slices.Equal(a.Entries, b.Entries)
	})
}

func tables(t *testing.T, s *silo.Store, want ...api.Table) {
	t.Helper()
	if got := s.Tables(); !equalTables(got, want) {
		t.Errorf("P10: Tables() = %+v, want %+v", got, want)
	}
}

func TestLevelExamples(t *testing.T) {
	s := silo.New()
	write(t, s, 1, is("a", "1"))
	snap(t, s, 1)
	write(t, s, 2, is("b", "2"), gone("a"), is("c", "3"))
	write(t, s, 3, is("a", "4"), is("a", "5"))
	flush(t, s, api.OK)
	tables(t, s, on(0, put("a", 3, "5"), put("a", 1, "1"), put("b", 2, "2"), put("c", 2, "3")))
	get(t, s, "a", 1, "1")
	drop(t, s, 1, api.OK)
	write(t, s, 4, gone("c"))
	flush(t, s, api.OK)
	merge(t, s, 0, api.OK)
	merge(t, s, 1, api.OK)
	tables(t, s, on(2, put("a", 3, "5"), put("b", 2, "2")))
}

func TestFlushOfNothing(t *testing.T) {
	s := silo.New()
	flush(t, s, api.ErrEmpty)
	tables(t, s)
	refuse(t, s, api.ErrMany)
	snap(t, s, 1)
	flush(t, s, api.ErrEmpty)
	write(t, s, 1, is("a", "1"))
	flush(t, s, api.OK)
	for range 3 {
		flush(t, s, api.ErrEmpty)
		tables(t, s, on(0, put("a", 1, "1")))
	}
	refuse(t, s, api.ErrKey, is("", ""))
	flush(t, s, api.ErrEmpty)
	write(t, s, 2, gone("none"))
	flush(t, s, api.OK)
	tables(t, s, on(0, del("none", 2)), on(0, put("a", 1, "1")))
}

func TestFlushEmptiesTheJournal(t *testing.T) {
	s := silo.New()
	write(t, s, 1, is("a", "1"))
	write(t, s, 2, is("b", "2"))
	flush(t, s, api.OK)
	journal(t, s)
	write(t, s, 3, is("a", "5"))
	journal(t, s, record(1, 0, 1, 'a', 1, '5'))
	flush(t, s, api.OK)
	journal(t, s)
	tables(t, s, on(0, put("a", 3, "5")), on(0, put("a", 1, "1"), put("b", 2, "2")))
}

// TestFlushKeepsWhatIsNeeded lays down the batches 1 to 3 of one key, with snapshots at given batch numbers.
func TestFlushKeepsWhatIsNeeded(t *testing.T) {
	for _, c := range []struct {
		snaps []int
		want  []api.Entry
	}{
		{nil, []api.Entry{put("k", 3, "3")}},
		{[]int{0}, []api.Entry{put("k", 3, "3")}},
		{[]int{3}, []api.Entry{put("k", 3, "3")}},
		{[]int{2}, []api.Entry{put("k", 3, "3"), del("k", 2)}},
		{[]int{1}, []api.Entry{put("k", 3, "3"), put("k", 1, "1")}},
		{[]int{1, 1, 1}, []api.Entry{put("k", 3, "3"), put("k", 1, "1")}},
		{[]int{0, 1, 2, 3}, []api.Entry{put("k", 3, "3"), del("k", 2), put("k", 1, "1")}},
	} {
		s := silo.New()
		for n, pair := range []api.Pair{{}, is("k", "1"), gone("k"), is("k", "3")} {
			if n > 0 {
				write(t, s, n, pair)
			}
			for i, at := range c.snaps {
				if at == n {
					snap(t, s, i+1)
				}
			}
		}
		flush(t, s, api.OK)
		tables(t, s, on(0, c.want...))
	}
}

func TestNeedReachesOverBatchesOfOtherKeys(t *testing.T) {
	s := silo.New()
	write(t, s, 1, is("k", "1"))
	write(t, s, 2, is("j", "2"))
	write(t, s, 3, is("j", "3"))
	snap(t, s, 1) // sees k of the batch 1, and j of the batch 3
	write(t, s, 4, is("j", "4"))
	write(t, s, 5, is("k", "5"))
	flush(t, s, api.OK)
	tables(t, s, on(0, put("j", 4, "4"), put("j", 3, "3"), put("k", 5, "5"), put("k", 1, "1")))
	scan(t, s, "", 9, 1, is("j", "3"), is("k", "1"))
}

func TestDroppedSnapshotsNeedNothing(t *testing.T) {
	s := silo.New()
	write(t, s, 1, is("k", "1"))
	snap(t, s, 1)
	write(t, s, 2, is("k", "2"))
	snap(t, s, 2)
	write(t, s, 3, is("k", "3"))
	drop(t, s, 1, api.OK)
	flush(t, s, api.OK)
	tables(t, s, on(0, put("k", 3, "3"), put("k", 2, "2")))
	drop(t, s, 2, api.OK)
	tables(t, s, on(0, put("k", 3, "3"), put("k", 2, "2")))
	merge(t, s, 0, api.OK)
	tables(t, s, on(1, put("k", 3, "3")))
}

func TestMergeErrors(t *testing.T) {
	s := silo.New()
	wrong := func() {
		t.Helper()
		for _, level := range []int{-1, api.LastLevel, api.LastLevel + 1, math.MinInt, math.MaxInt} {
			merge(t, s, level, api.ErrArg)
		}
	}
	wrong()
	merge(t, s, 0, api.ErrEmpty)
	merge(t, s, 1, api.ErrEmpty)
	write(t, s, 1, is("a", "1"))
	wrong()
	merge(t, s, 0, api.ErrEmpty)
	flush(t, s, api.OK)
	merge(t, s, 1, api.ErrEmpty)
	wrong()
	tables(t, s, on(0, put("a", 1, "1")))
	merge(t, s, 0, api.OK)
	merge(t, s, 0, api.ErrEmpty)
	wrong()
	tables(t, s, on(1, put("a", 1, "1")))
	merge(t, s, 1, api.OK)
	merge(t, s, 0, api.ErrEmpty)
	merge(t, s, 1, api.ErrEmpty)
	wrong()
	tables(t, s, on(2, put("a", 1, "1")))
}

func TestMergeLeavesTheJournal(t *testing.T) {
	s := silo.New()
	write(t, s, 1, is("a", "1"))
	flush(t, s, api.OK)
	write(t, s, 2, gone("a"))
	records := s.Journal()
	for level := range api.LastLevel {
		merge(t, s, level, api.OK)
		journal(t, s, records)
		tables(t, s, on(level+1, put("a", 1, "1")))
		getNot(t, s, "a", 0, api.ErrNone)
	}
	flush(t, s, api.OK)
	tables(t, s, on(0, del("a", 2)), on(2, put("a", 1, "1")))
}

func TestMergeTakesBothLevelsTogether(t *testing.T) {
	s := silo.New()
	lay := func(n int, pairs ...api.Pair) {
		t.Helper()
		write(t, s, n, pairs...)
		flush(t, s, api.OK)
	}
	lay(1, is("k", "1"), is("a", "1"))
	merge(t, s, 0, api.OK)
	snap(t, s, 1)
	lay(2, is("k", "2"))
	lay(3, is("k", "3"), is("z", "3"))
	lay(4, is("k", "4"))
	merge(t, s, 0, api.OK)
	tables(t, s, on(1, put("a", 1, "1"), put("k", 4, "4"), put("k", 1, "1"), put("z", 3, "3")))
	merge(t, s, 1, api.OK)
	drop(t, s, 1, api.OK)
	lay(5, is("a", "5"), gone("z"))
	merge(t, s, 0, api.OK)
	tables(t, s, on(1, put("a", 5, "5"), del("z", 5)), on(2, put("a", 1, "1"), put("k", 4, "4"), put("k", 1, "1"), put("z", 3, "3")))
	merge(t, s, 1, api.OK)
	tables(t, s, on(2, put("a", 5, "5"), put("k", 4, "4")))
}

func TestDeletionsStayAheadOfLastLevel(t *testing.T) {
	s := silo.New()
	write(t, s, 1, gone("a"), is("b", "1"))
	write(t, s, 2, gone("b"))
	flush(t, s, api.OK)
	tables(t, s, on(0, del("a", 1), del("b", 2)))
	merge(t, s, 0, api.OK)
	tables(t, s, on(1, del("a", 1), del("b", 2)))
	write(t, s, 3, gone("a"))
	flush(t, s, api.OK)
	merge(t, s, 1, api.OK)
	tables(t, s, on(0, del("a", 3)))
	merge(t, s, 0, api.OK)
	tables(t, s, on(1, del("a", 3)))
	merge(t, s, 1, api.OK)
	tables(t, s)
	merge(t, s, 1, api.ErrEmpty)
}

// TestLastDeletionsGo merges entries that snapshots see onto LastLevel.
func TestLastDeletionsGo(t *testing.T) {
	for _, c := range []struct {
		name  string
		pairs []api.Pair // one batch each, with a snapshot behind it
		want  []api.Entry
	}{
		{"deleted, deleted", []api.Pair{gone("k"), gone("k")}, nil},
		{"deleted, value", []api.Pair{gone("k"), is("k", "2")}, []api.Entry{put("k", 2, "2")}},
		{"value, deleted", []api.Pair{is("k", "1"), gone("k")}, []api.Entry{del("k", 2), put("k", 1, "1")}},
		{"deleted, deleted, value, deleted", []api.Pair{gone("k"), gone("k"), is("k", "3"), gone("k")}, []api.Entry{del("k", 4), put("k", 3, "3")}},
		{"value, deleted, deleted, deleted", []api.Pair{is("k", "1"), gone("k"), gone("k"), gone("k")}, []api.Entry{del("k", 4), del("k", 3), del("k", 2), put("k", 1, "1")}},
		{"empty value", []api.Pair{gone("k"), is("k", "")}, []api.Entry{put("k", 2, "")}},
	} {
		s := silo.New()
		for i, pair := range c.pairs {
			write(t, s, i+1, pair)
			snap(t, s, i+1)
		}
		flush(t, s, api.OK)
		merge(t, s, 0, api.OK)
		if got := s.Tables(); len(got) != 1 || len(got[0].Entries) != len(c.pairs) {
			t.Errorf("P9: %s: on level 1: %+v", c.name, got)
		}
		merge(t, s, 1, api.OK)
		if c.want == nil {
			tables(t, s)
		} else {
			tables(t, s, on(api.LastLevel, c.want...))
		}
		for i, pair := range c.pairs {
			if pair.Gone {
				getNot(t, s, "k", i+1, api.ErrNone)
			} else {
				get(t, s, "k", i+1, pair.Value)
			}
		}
	}
}

func TestDeletionOfOneKeyLeavesItsNeighbours(t *testing.T) {
	s := silo.New()
	write(t, s, 1, is("a", "1"), gone("b"), is("c", "1"), gone("d"))
	flush(t, s, api.OK)
	merge(t, s, 0, api.OK)
	merge(t, s, 1, api.OK)
	tables(t, s, on(2, put("a", 1, "1"), put("c", 1, "1")))
}

func TestTablesOrder(t *testing.T) {
	s := silo.New()
	for n := 1; n <= 7; n++ {
		write(t, s, n, is("k", string(rune('0'+n))))
		flush(t, s, api.OK)
		if n == 2 || n == 4 {
			merge(t, s, 0, api.OK)
		}
		if n == 3 {
			merge(t, s, 1, api.OK)
		}
	}
	tables(t, s, on(0, put("k", 7, "7")), on(0, put("k", 6, "6")), on(0, put("k", 5, "5")), on(1, put("k", 4, "4")), on(2, put("k", 2, "2")))
	get(t, s, "k", 0, "7")
}

func TestReadsGoThroughAllLevels(t *testing.T) {
	s := silo.New()
	write(t, s, 1, is("a", "1"), is("b", "1"), is("c", "1"), is("d", "1"))
	snap(t, s, 1)
	flush(t, s, api.OK)
	merge(t, s, 0, api.OK)
	merge(t, s, 1, api.OK)
	write(t, s, 2, is("b", "2"), gone("c"))
	snap(t, s, 2)
	flush(t, s, api.OK)
	merge(t, s, 0, api.OK)
	write(t, s, 3, is("c", "3"), is("bb", "3"))
	flush(t, s, api.OK)
	write(t, s, 4, gone("bb"), is("e", "4"))
	flush(t, s, api.OK)
	write(t, s, 5, gone("a"), is("d", "5"))
	scan(t, s, "", 9, 0, is("b", "2"), is("c", "3"), is("d", "5"), is("e", "4"))
	scan(t, s, "", 9, 2, is("a", "1"), is("b", "2"), is("d", "1"))
	scan(t, s, "", 9, 1, is("a", "1"), is("b", "1"), is("c", "1"), is("d", "1"))
	scan(t, s, "b\x00", 2, 0, is("c", "3"), is("d", "5"))
	scan(t, s, "bb", 1, 2, is("d", "1"))
	getNot(t, s, "bb", 0, api.ErrNone)
	getNot(t, s, "c", 2, api.ErrNone)
	get(t, s, "c", 1, "1")
}

func TestNumbersGoOnBehindFlush(t *testing.T) {
	s := silo.New()
	write(t, s, 1, is("a", "1"))
	snap(t, s, 1)
	flush(t, s, api.OK)
	write(t, s, 2, is("a", "2"))
	merge(t, s, 0, api.OK)
	snap(t, s, 2)
	write(t, s, 3, is("a", "3"))
	get(t, s, "a", 1, "1")
	get(t, s, "a", 2, "2")
}
