package silo_test

import (
	"math"
	"testing"

	"silo/api"
	"silo/silo"
)

func writeSynced(t *testing.T, s *silo.Store, want int, pairs ...api.Pair) {
	t.Helper()
	if n, err := s.Write(pairs, true); n != want || err != api.OK {
		t.Fatalf("P4: Write(%+v, true) = %d, %d, want %d", pairs, n, err, want)
	}
}

func TestCrashOfNothing(t *testing.T) {
	for _, keep := range []int{0, 1, -1, -2, math.MaxInt, math.MinInt} {
		s := silo.New()
		s.Crash(keep)
		scan(t, s, "", 9, 0)
		journal(t, s)
		tables(t, s)
		flush(t, s, api.ErrEmpty)
		snap(t, s, 1)
		write(t, s, 1, is("a", "1"))
	}
}

// TestCrashKeeps crashes a journal of records with 10 bytes each, of which the first is synced: 20 bytes are not.
func TestCrashKeeps(t *testing.T) {
	for _, c := range []struct{ keep, left int }{
		{0, 1}, {1, 1}, {9, 1}, {10, 2}, {11, 2}, {19, 2}, {20, 3}, {21, 1}, {30, 1}, {31, 2}, {41, 3}, {42, 1},
		{-1, 1}, {-10, 1}, {-11, 2}, {-20, 2}, {-21, 3}, {-22, 1}, {-32, 2}, {-42, 3}, {-43, 1},
		{21*100000 + 20, 3}, {-21*100000 - 21, 3},
		// MaxInt leaves 7 when it is divided by 21.
		{math.MaxInt, 1}, {math.MaxInt - 7, 1}, {math.MaxInt - 8, 3}, {math.MaxInt - 9, 2}, {math.MinInt, 1}, {math.MinInt + 7, 1}, {math.MinInt + 8, 3}, {math.MinInt + 9, 2},
	} {
		all := []api.Pair{is("a", "1"), is("b", "2"), is("c", "3")}
		s := silo.New()
		writeSynced(t, s, 1, all[0])
		write(t, s, 2, all[1])
		write(t, s, 3, all[2])
		whole := s.Journal()
		s.Crash(c.keep)
		scan(t, s, "", 9, 0, all[:c.left]...)
		journal(t, s, whole[:10*c.left])
		for _, again := range []int{0, 1, -1, 20, math.MaxInt, math.MinInt} {
			s.Crash(again)
			scan(t, s, "", 9, 0, all[:c.left]...)
			journal(t, s, whole[:10*c.left])
		}
		write(t, s, c.left+1, is("d", "4"))
		s.Crash(9)
		journal(t, s, whole[:10*c.left])
		write(t, s, c.left+1, is("d", "5"))
		flush(t, s, api.OK)
		want := []api.Entry{put("a", 1, "1"), put("b", 2, "2"), put("c", 3, "3")}[:c.left]
		tables(t, s, on(0, append(want, put("d", c.left+1, "5"))...))
	}
}

func TestCrashLosesWholeBatches(t *testing.T) {
	pairs := []api.Pair{is("a", "2"), gone("b"), is("c", "2"), is("d", "2")}
	size := 0
	for keep := 0; keep == 0 || keep <= size; keep++ {
		s := silo.New()
		writeSynced(t, s, 1, is("a", "1"), is("b", "1"))
		synced := s.Journal()
		write(t, s, 2, pairs...)
		whole := s.Journal()
		size = len(whole) - len(synced)
		s.Crash(keep)
		if keep < size {
			scan(t, s, "", 9, 0, is("a", "1"), is("b", "1"))
			journal(t, s, synced)
			write(t, s, 2, is("e", "2"))
		} else {
			scan(t, s, "", 9, 0, is("a", "2"), is("c", "2"), is("d", "2"))
			journal(t, s, whole)
			write(t, s, 3, is("e", "3"))
		}
	}
}

func TestSyncHoldsTheWholeJournal(t *testing.T) {
	s := silo.New()
	write(t, s, 1, is("a", "1"))
	write(t, s, 2, is("b", "2"))
	writeSynced(t, s, 3, is("c", "3"))
	write(t, s, 4, is("d", "4"))
	refuse(t, s, api.ErrMany)
	s.Crash(0)
	scan(t, s, "", 9, 0, is("a", "1"), is("b", "2"), is("c", "3"))
	write(t, s, 4, is("e", "4"))
}

func TestCrashSyncsWhatIsLeft(t *testing.T) {
	s := silo.New()
	write(t, s, 1, is("a", "1"))
	write(t, s, 2, is("b", "2"))
	s.Crash(15)
	write(t, s, 2, is("c", "2"))
	s.Crash(0)
	scan(t, s, "", 9, 0, is("a", "1"))
	journal(t, s, one())
}

func TestCrashLetsSnapshotsGo(t *testing.T) {
	s := silo.New()
	writeSynced(t, s, 1, is("a", "1"))
	for n := 1; n <= api.MaxSnaps; n++ {
		snap(t, s, n)
	}
	drop(t, s, 3, api.OK)
	s.Crash(0)
	for n := 1; n <= api.MaxSnaps+1; n++ {
		getNot(t, s, "a", n, api.ErrSnap)
		scanNot(t, s, 1, n, api.ErrSnap)
		drop(t, s, n, api.ErrSnap)
	}
	for n := 1; n <= api.MaxSnaps; n++ {
		snap(t, s, api.MaxSnaps+n)
	}
	if n, err := s.Snap(); n != 0 || err != api.ErrFull {
		t.Errorf("P7: Snap() above the most = %d, %d, want 0, %d", n, err, api.ErrFull)
	}
	s.Crash(0)
	snap(t, s, 2*api.MaxSnaps+1)
	get(t, s, "a", 2*api.MaxSnaps+1, "1")
}

func TestCrashedSnapshotsNeedNothing(t *testing.T) {
	s := silo.New()
	writeSynced(t, s, 1, is("k", "1"))
	snap(t, s, 1)
	writeSynced(t, s, 2, is("k", "2"))
	s.Crash(0)
	flush(t, s, api.OK)
	tables(t, s, on(0, put("k", 2, "2")))
}

func TestCrashedMemoryHasWhatSnapshotsSee(t *testing.T) {
	s := silo.New()
	writeSynced(t, s, 1, is("k", "1"))
	write(t, s, 2, is("k", "2"))
	s.Crash(0)
	snap(t, s, 1)
	write(t, s, 2, gone("k"))
	get(t, s, "k", 1, "1")
	getNot(t, s, "k", 0, api.ErrNone)
	flush(t, s, api.OK)
	tables(t, s, on(0, del("k", 2), put("k", 1, "1")))
}

func TestCrashLeavesWhatWasLaidDown(t *testing.T) {
	s := silo.New()
	write(t, s, 1, is("a", "1"), is("b", "1"))
	flush(t, s, api.OK)
	merge(t, s, 0, api.OK)
	write(t, s, 2, gone("a"))
	flush(t, s, api.OK)
	laid := s.Tables()
	for range 3 {
		write(t, s, 3, is("a", "3"), gone("b"))
		s.Crash(5)
		tables(t, s, laid...)
		journal(t, s)
		flush(t, s, api.ErrEmpty)
		scan(t, s, "", 9, 0, is("b", "1"))
	}
	write(t, s, 3, is("a", "3"))
	write(t, s, 4, is("a", "4"))
	s.Crash(10)
	tables(t, s, laid...)
	scan(t, s, "", 9, 0, is("a", "3"), is("b", "1"))
	flush(t, s, api.OK)
	tables(t, s, append([]api.Table{on(0, put("a", 3, "3"))}, laid...)...)
	write(t, s, 4, is("a", "5"))
}

func TestNumbersGoOnBehindWhatLeftNothing(t *testing.T) {
	s := silo.New()
	write(t, s, 1, gone("a"))
	write(t, s, 2, gone("b"))
	flush(t, s, api.OK)
	merge(t, s, 0, api.OK)
	merge(t, s, 1, api.OK)
	tables(t, s)
	s.Crash(0)
	write(t, s, 3, is("a", "3"))
	write(t, s, 4, is("a", "4"))
	s.Crash(10)
	write(t, s, 4, is("a", "5"))
	flush(t, s, api.OK)
	tables(t, s, on(0, put("a", 4, "5")))
}

func TestFlushLeavesTheNewJournalLoose(t *testing.T) {
	s := silo.New()
	writeSynced(t, s, 1, is("a", "1"))
	flush(t, s, api.OK)
	write(t, s, 2, is("b", "2"))
	s.Crash(0)
	scan(t, s, "", 9, 0, is("a", "1"))
	write(t, s, 2, is("b", "2"))
	s.Crash(10)
	scan(t, s, "", 9, 0, is("a", "1"), is("b", "2"))
	journal(t, s, record(1, 0, 1, 'b', 1, '2'))
}

func TestMergeAndReadsSyncNothing(t *testing.T) {
	s := silo.New()
	write(t, s, 1, is("a", "1"))
	flush(t, s, api.OK)
	write(t, s, 2, is("a", "2"))
	merge(t, s, 0, api.OK)
	merge(t, s, 1, api.OK)
	get(t, s, "a", 0, "2")
	snap(t, s, 1)
	s.Journal()
	s.Crash(9)
	get(t, s, "a", 0, "1")
}

func TestJournalStaysWhatItWas(t *testing.T) {
	s := silo.New()
	write(t, s, 1, is("a", "1"))
	write(t, s, 2, is("b", "2"))
	told := s.Journal()
	want := one() + record(1, 0, 1, 'b', 1, '2')
	s.Crash(10)
	write(t, s, 2, is("x", "9"))
	s.Crash(0)
	write(t, s, 2, is("y", "8"))
	if told != want {
		t.Errorf("P2: what Journal told was changed later: %q, want %q", told, want)
	}
}
