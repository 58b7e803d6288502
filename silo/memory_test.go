package silo_test

import (
	"reflect"
	"slices"
	"testing"

	"silo/api"
	"silo/silo"
)

func TestWriteLeavesWhatIsHandedIn(t *testing.T) {
	s := silo.New()
	in := []api.Pair{is("z", "1"), is("y", "2"), is("z", "3"), is("spare", "room"), is("more", "room")}
	before := slices.Clone(in)
	for n, sync := range []bool{false, true} {
		if got, err := s.Write(in[:3], sync); got != n+1 || err != api.OK {
			t.Fatalf("P4: Write = %d, %d", got, err)
		}
		if !slices.Equal(in, before) {
			t.Fatalf("P2: Write changed what was handed in: %+v, was %+v", in, before)
		}
	}
}

func TestWriteKeepsNoList(t *testing.T) {
	s := silo.New()
	in := []api.Pair{is("a", "1"), is("b", "2")}
	write(t, s, 1, in...)
	snap(t, s, 1)
	records := s.Journal()
	for i := range in {
		in[i] = gone("other")
	}
	for _, at := range []int{0, 1} {
		scan(t, s, "", 9, at, is("a", "1"), is("b", "2"))
	}
	journal(t, s, records)
}

func TestScanGivesNewMemory(t *testing.T) {
	s := silo.New()
	write(t, s, 1, is("a", "1"), is("b", "2"), is("c", "3"))
	want := []api.Pair{is("a", "1"), is("b", "2"), is("c", "3")}
	first, _ := s.Scan("", 9, 0)
	second, _ := s.Scan("", 9, 0)
	room := first[:cap(first)]
	for i := range room {
		room[i] = is("other", "others")
	}
	if !slices.Equal(second, want) {
		t.Errorf("P2: two lists share memory: %+v", second)
	}
	scan(t, s, "", 9, 0, want...)
	for i, pair := range second[:cap(second)] {
		if pair == is("other", "others") {
			t.Errorf("P2: two lists share memory at %d", i)
		}
	}
}

func TestReadsChangeNothing(t *testing.T) {
	s := silo.New()
	write(t, s, 1, is("a", "1"))
	snap(t, s, 1)
	write(t, s, 2, is("a", "2"))
	records := s.Journal()
	for range 5 {
		get(t, s, "a", 0, "2")
		get(t, s, "a", 1, "1")
		scan(t, s, "", 9, 0, is("a", "2"))
		scan(t, s, "", 9, 1, is("a", "1"))
		getNot(t, s, "b", 0, api.ErrNone)
		scanNot(t, s, -1, 7, api.ErrSnap)
		drop(t, s, 7, api.ErrSnap)
	}
	journal(t, s, records)
	snap(t, s, 2)
	write(t, s, 3, is("a", "3"))
}

// spoil writes into everything that a list of tables gives, its spare room too.
func spoil(tables []api.Table) {
	for _, table := range tables {
		entries := table.Entries[:cap(table.Entries)]
		for i := range entries {
			entries[i] = del("other", -1)
		}
	}
	room := tables[:cap(tables)]
	for i := range room {
		room[i] = on(9)
	}
}

func TestTablesGiveNewMemory(t *testing.T) {
	s := silo.New()
	for n := 1; n <= 3; n++ {
		write(t, s, n, is("a", "1"), is("b", "2"), is("c", "3"))
		flush(t, s, api.OK)
	}
	want := s.Tables()
	other := s.Tables()
	spoil(s.Tables())
	tables(t, s, want...)
	if !equalTables(other, want) {
		t.Errorf("P2: two answers of Tables share memory: %+v, was %+v", other, want)
	}
	scan(t, s, "", 9, 0, is("a", "1"), is("b", "2"), is("c", "3"))
	for level := range api.LastLevel {
		merge(t, s, level, api.OK)
		spoil(s.Tables())
		tables(t, s, on(level+1, put("a", 3, "1"), put("b", 3, "2"), put("c", 3, "3")))
	}
}

func TestTablesOfOneAnswerShareNothing(t *testing.T) {
	s := silo.New()
	for n := 1; n <= 4; n++ {
		write(t, s, n, is("a", "1"), is("b", "2"))
		flush(t, s, api.OK)
	}
	got := s.Tables()
	for i, table := range got {
		entries := append(table.Entries, del("other", -1))
		for k := range entries {
			entries[k].Seq = -1
		}
		for k, later := range got[i+1:] {
			if want := on(0, put("a", 3-i-k, "1"), put("b", 3-i-k, "2")); !slices.Equal(later.Entries, want.Entries) {
				t.Errorf("P2: lists of one answer share memory: %+v, want %+v", later, want)
			}
		}
	}
}

func TestTablesStayWhatTheyWere(t *testing.T) {
	s := silo.New()
	write(t, s, 1, is("a", "1"), is("b", "1"))
	flush(t, s, api.OK)
	got := s.Tables()
	write(t, s, 2, is("a", "2"), gone("b"))
	flush(t, s, api.OK)
	merge(t, s, 0, api.OK)
	merge(t, s, 1, api.OK)
	if want := []api.Table{on(0, put("a", 1, "1"), put("b", 1, "1"))}; !equalTables(got, want) {
		t.Errorf("P2: what Tables gave was changed later: %+v, want %+v", got, want)
	}
}

// roomy: the list, with one more behind it that it does not reach.
func roomy[T any](spare T, list ...T) []T { return append(list, spare)[:len(list)] }

// handIn: clients and picks, each of their lists with spare room.
func handIn() ([][]api.Call, []int) {
	pairs := func(list ...api.Pair) []api.Pair { return roomy(is("spare", "room"), list...) }
	spare := writes(is("spare", "calls"))
	return roomy([]api.Call{spare},
		roomy(spare, writes(pairs(is("z", "1"), is("y", "2"), is("z", "3"))...), scans("", 9, 0), scans("", 9, 0)),
		roomy(spare, writesSynced(pairs(is("x", "4"), gone("w"))...), snaps(), gets("x", -1)),
		roomy(spare, writes(pairs(is("c", "5"))...)),
	), roomy(1, 0, 1, -1, 0, 0, 1, 1, -2, 2)
}

// whole: the clients and picks, their spare room too.
func whole(clients [][]api.Call, picks []int) ([][]api.Call, []int) {
	var all [][]api.Call
	for _, calls := range clients[:len(clients)+1] {
		calls = slices.Clone(calls[:cap(calls)])
		for i := range calls {
			calls[i].Pairs = calls[i].Pairs[:cap(calls[i].Pairs)]
		}
		all = append(all, calls)
	}
	return all, picks[:len(picks)+1]
}

func TestRunLeavesWhatIsHandedIn(t *testing.T) {
	clients, picks := handIn()
	if done, err := silo.New().Run(clients, picks); len(done) != 7 || err != api.OK {
		t.Fatalf("P14: Run = %+v, %d", done, err)
	}
	gotCalls, gotPicks := whole(clients, picks)
	wantCalls, wantPicks := whole(handIn())
	if !reflect.DeepEqual(gotCalls, wantCalls) || !slices.Equal(gotPicks, wantPicks) {
		t.Errorf("P2: Run changed what was handed in: %+v, %v", gotCalls, gotPicks)
	}
}

func TestRunKeepsNoList(t *testing.T) {
	s, same := silo.New(), silo.New()
	clients, picks := handIn()
	done, _ := s.Run(clients, picks)
	want, _ := same.Run(handIn())
	calls, _ := whole(clients, picks)
	for _, list := range calls {
		for _, call := range list {
			for i := range call.Pairs {
				call.Pairs[i] = gone("other")
			}
		}
	}
	for _, list := range clients {
		clear(list)
	}
	clear(picks)
	if !slices.EqualFunc(done, want, equalDone) {
		t.Errorf("P2: the answer of Run hangs on what was handed in: %+v, was %+v", done, want)
	}
	scan(t, s, "", 9, 0, is("x", "4"), is("y", "2"), is("z", "3"))
	journal(t, s, same.Journal())
}

func TestRunGivesNewMemory(t *testing.T) {
	s := silo.New()
	write(t, s, 1, is("a", "1"), is("b", "2"), is("c", "3"))
	clients := [][]api.Call{{scans("", 9, 0), scans("", 9, 0)}, {scans("", 2, 0), snaps(), scans("", 9, -1)}}
	first, _ := s.Run(clients, rounds(2, 6))
	var want []api.Done
	for _, done := range first {
		done.Pairs = slices.Clone(done.Pairs)
		want = append(want, done)
	}
	other := is("other", "others")
	for i, done := range first {
		room := done.Pairs[:cap(done.Pairs)]
		if slices.Contains(room, other) {
			t.Errorf("P2: the list of answer %d shares memory with one ahead of it", i)
		}
		for k := range room {
			room[k] = other
		}
	}
	clear(first[:cap(first)])
	drop(t, s, 1, api.OK)
	scan(t, s, "", 9, 0, is("a", "1"), is("b", "2"), is("c", "3"))
	second, _ := s.Run(clients, rounds(2, 6))
	want[3].N = 2
	if !slices.EqualFunc(second, want, equalDone) {
		t.Errorf("P2: Run = %+v behind one whose answer was written into, want %+v", second, want)
	}
}
