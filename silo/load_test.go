package silo_test

import (
	"fmt"
	"strings"
	"testing"

	"silo/api"
	"silo/silo"
)

func load(t *testing.T, text string, wantEnd int, want api.Errno) *silo.Store {
	t.Helper()
	s, end, err := silo.Load(text)
	if s == nil || end != wantEnd || err != want {
		t.Fatalf("P12: Load(%.80q) = %v, %d, %d, want a store, %d, %d", text, s, end, err, wantEnd, want)
	}
	return s
}

// one, two: the records of a = 1, and of a deleted, b = 2, c with the empty value.
func one() string { return record(1, 0, 1, 'a', 1, '1') }

func two() string { return record(3, 1, 1, 'a', 0, 1, 'b', 1, '2', 0, 1, 'c', 0) }

func TestLoadOfNothing(t *testing.T) {
	s := load(t, "", 0, api.OK)
	scan(t, s, "", 9, 0)
	journal(t, s)
	tables(t, s)
	flush(t, s, api.ErrEmpty)
	s.Crash(5)
	snap(t, s, 1)
	write(t, s, 1, is("a", "1"))
}

func TestLoadMakesTheStore(t *testing.T) {
	s := load(t, one()+two(), 27, api.OK)
	scan(t, s, "", 9, 0, is("b", "2"), is("c", ""))
	getNot(t, s, "a", 0, api.ErrNone)
	getNot(t, s, "b", 1, api.ErrSnap)
	journal(t, s, one(), two())
	tables(t, s)
	snap(t, s, 1)
	write(t, s, 3, is("b", "3"))
	journal(t, s, one(), two(), record(1, 0, 1, 'b', 1, '3'))
	get(t, s, "b", 1, "2")
	flush(t, s, api.OK)
	tables(t, s, on(0, del("a", 2), put("b", 3, "3"), put("b", 2, "2"), put("c", 2, "")))
}

func TestLoadTellsWhereItIsTorn(t *testing.T) {
	text := one() + two() + one()
	places := []int{0, 10, 27, 37}
	for cut := range len(text) + 1 {
		whole := 0
		for whole < 3 && places[whole+1] <= cut {
			whole++
		}
		want := api.ErrTorn
		if places[whole] == cut {
			want = api.OK
		}
		s := load(t, text[:cut], places[whole], want)
		journal(t, s, text[:places[whole]])
		states := [][]api.Pair{nil, {is("a", "1")}, {is("b", "2"), is("c", "")}, {is("a", "1"), is("b", "2"), is("c", "")}}
		scan(t, s, "", 9, 0, states[whole]...)
		s.Crash(0)
		scan(t, s, "", 9, 0, states[whole]...)
		write(t, s, whole+1, is("z", "1"))
	}
}

func TestLoadOfOtherBytes(t *testing.T) {
	for _, wrong := range []string{
		"\x00", "x", "any text that is no journal", one()[:9], one()[1:], one()[:6] + "\x00\x00\x00\x00",
		record(), record(0), record(1, 2, 1, 'a'), record(1, 1, 0), record(2, 1, 1, 'b', 1, 1, 'a'), record(2, 1, 1, 'a', 1, 1, 'a'),
		record(1, 1, 7, 'a', 'b', 'c', 'd', 'e', 'f', 'g'), record(1, 0, 1, 'a', 9, 1, 2, 3, 4, 5, 6, 7, 8, 9), record(5, 1, 1, 'a', 1, 1, 'b', 1, 1, 'c', 1, 1, 'd', 1, 1, 'e'),
		strings.Repeat("\x00", 1<<20), strings.Repeat("\xff", 1<<20),
	} {
		s := load(t, wrong, 0, api.ErrTorn)
		scan(t, s, "", 9, 0)
		journal(t, s)
		flush(t, s, api.ErrEmpty)
		s = load(t, one()+wrong+two(), 10, api.ErrTorn)
		scan(t, s, "", 9, 0, is("a", "1"))
		journal(t, s, one())
		write(t, s, 2, is("b", "2"))
	}
}

func TestLoadIsSynced(t *testing.T) {
	for _, torn := range []string{"", "x"} {
		s, _, _ := silo.Load(one() + two() + torn)
		write(t, s, 3, is("z", "3"))
		s.Crash(0)
		journal(t, s, one(), two())
		scan(t, s, "", 9, 0, is("b", "2"), is("c", ""))
		write(t, s, 3, is("z", "4"))
		get(t, s, "z", 0, "4")
	}
}

func TestLoadedStoresAreApart(t *testing.T) {
	text := one() + two()
	a, b := load(t, text, 27, api.OK), load(t, text, 27, api.OK)
	write(t, a, 3, gone("b"))
	flush(t, a, api.OK)
	scan(t, b, "", 9, 0, is("b", "2"), is("c", ""))
	journal(t, b, text)
	tables(t, b)
	write(t, b, 3, is("b", "5"))
	get(t, b, "b", 0, "5")
	getNot(t, a, "b", 0, api.ErrNone)
}

// TestLoadOfManyRecords holds Load and Crash to a time that does not grow with the square of the records.
func TestLoadOfManyRecords(t *testing.T) {
	const many = 200000
	text := strings.Repeat(one(), many)
	s := load(t, text, len(text), api.OK)
	scan(t, s, "", 9, 0, is("a", "1"))
	s.Crash(0)
	write(t, s, many+1, is("b", "2"))
	s.Crash(0)
	write(t, s, many+1, is("b", "3"))
	flush(t, s, api.OK)
	tables(t, s, on(0, put("a", many, "1"), put("b", many+1, "3")))
}

func TestLoadOfTheJournalMakesTheSame(t *testing.T) {
	s := silo.New()
	var want []api.Pair
	for n := 1; n <= 50; n++ {
		key := fmt.Sprintf("k%02d", n)
		write(t, s, n, is(key, key), gone("k"), is("same", key))
		want = append(want, is(key, key))
	}
	want = append(want, is("same", "k50"))
	other := load(t, s.Journal(), len(s.Journal()), api.OK)
	scan(t, other, "", 99, 0, want...)
	journal(t, other, s.Journal())
	flush(t, s, api.OK)
	flush(t, other, api.OK)
	tables(t, other, s.Tables()...)
}
