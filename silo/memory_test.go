package silo_test

import (
	"slices"
	"testing"

	"silo/api"
	"silo/silo"
)

func TestWriteLeavesWhatIsHandedIn(t *testing.T) {
	s := silo.New()
	in := []api.Pair{is("z", "1"), is("y", "2"), is("z", "3"), is("spare", "room"), is("more", "room")}
	before := slices.Clone(in)
	for n, sync := range []bool{false, true} {
		if got, err := s.Write(in[:3], sync); got != n+1 || err != api.OK {
			t.Fatalf("P4: Write = %d, %d", got, err)
		}
		if !slices.Equal(in, before) {
			t.Fatalf("P2: Write changed what was handed in: %+v, was %+v", in, before)
		}
	}
}

func TestWriteKeepsNoList(t *testing.T) {
	s := silo.New()
	in := []api.Pair{is("a", "1"), is("b", "2")}
	write(t, s, 1, in...)
	snap(t, s, 1)
	records := s.Journal()
	for i := range in {
		in[i] = gone("other")
	}
	for _, at := range []int{0, 1} {
		scan(t, s, "", 9, at, is("a", "1"), is("b", "2"))
	}
	journal(t, s, records)
}

func TestScanGivesNewMemory(t *testing.T) {
	s := silo.New()
	write(t, s, 1, is("a", "1"), is("b", "2"), is("c", "3"))
	want := []api.Pair{is("a", "1"), is("b", "2"), is("c", "3")}
	first, _ := s.Scan("", 9, 0)
	second, _ := s.Scan("", 9, 0)
	room := first[:cap(first)]
	for i := range room {
		room[i] = is("other", "others")
	}
	if !slices.Equal(second, want) {
		t.Errorf("P2: two lists share memory: %+v", second)
	}
	scan(t, s, "", 9, 0, want...)
	for i, pair := range second[:cap(second)] {
		if pair == is("other", "others") {
			t.Errorf("P2: two lists share memory at %d", i)
		}
	}
}

func TestReadsChangeNothing(t *testing.T) {
	s := silo.New()
	write(t, s, 1, is("a", "1"))
	snap(t, s, 1)
	write(t, s, 2, is("a", "2"))
	records := s.Journal()
	for range 5 {
		get(t, s, "a", 0, "2")
		get(t, s, "a", 1, "1")
		scan(t, s, "", 9, 0, is("a", "2"))
		scan(t, s, "", 9, 1, is("a", "1"))
		getNot(t, s, "b", 0, api.ErrNone)
		scanNot(t, s, -1, 7, api.ErrSnap)
		drop(t, s, 7, api.ErrSnap)
	}
	journal(t, s, records)
	snap(t, s, 2)
	write(t, s, 3, is("a", "3"))
}

// spoil writes into everything that a list of tables gives, its spare room too.
func spoil(tables []api.Table) {
	for _, table := range tables {
		entries := table.Entries[:cap(table.Entries)]
		for i := range entries {
			entries[i] = del("other", -1)
		}
	}
	room := tables[:cap(tables)]
	for i := range room {
		room[i] = on(9)
	}
}

func TestTablesGiveNewMemory(t *testing.T) {
	s := silo.New()
	for n := 1; n <= 3; n++ {
		write(t, s, n, is("a", "1"), is("b", "2"), is("c", "3"))
		flush(t, s, api.OK)
	}
	want := s.Tables()
	other := s.Tables()
	spoil(s.Tables())
	tables(t, s, want...)
	if !equalTables(other, want) {
		t.Errorf("P2: two answers of Tables share memory: %+v, was %+v", other, want)
	}
	scan(t, s, "", 9, 0, is("a", "1"), is("b", "2"), is("c", "3"))
	for level := range api.LastLevel {
		merge(t, s, level, api.OK)
		spoil(s.Tables())
		tables(t, s, on(level+1, put("a", 3, "1"), put("b", 3, "2"), put("c", 3, "3")))
	}
}

func TestTablesOfOneAnswerShareNothing(t *testing.T) {
	s := silo.New()
	for n := 1; n <= 4; n++ {
		write(t, s, n, is("a", "1"), is("b", "2"))
		flush(t, s, api.OK)
	}
	got := s.Tables()
	for i, table := range got {
		entries := append(table.Entries, del("other", -1))
		for k := range entries {
			entries[k].Seq = -1
		}
		for k, later := range got[i+1:] {
			if want := on(0, put("a", 3-i-k, "1"), put("b", 3-i-k, "2")); !slices.Equal(later.Entries, want.Entries) {
				t.Errorf("P2: lists of one answer share memory: %+v, want %+v", later, want)
			}
		}
	}
}

func TestTablesStayWhatTheyWere(t *testing.T) {
	s := silo.New()
	write(t, s, 1, is("a", "1"), is("b", "1"))
	flush(t, s, api.OK)
	got := s.Tables()
	write(t, s, 2, is("a", "2"), gone("b"))
	flush(t, s, api.OK)
	merge(t, s, 0, api.OK)
	merge(t, s, 1, api.OK)
	if want := []api.Table{on(0, put("a", 1, "1"), put("b", 1, "1"))}; !equalTables(got, want) {
		t.Errorf("P2: what Tables gave was changed later: %+v, want %+v", got, want)
	}
}
