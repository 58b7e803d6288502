package silo_test

import (
	"encoding/binary"
	"hash/crc32"
	"math"
	"slices"
	"strings"
	"testing"

	"silo/api"
	"silo/silo"
)

func is(key, value string) api.Pair { return api.Pair{Key: key, Value: value} }

func gone(key string) api.Pair { return api.Pair{Key: key, Gone: true} }

func write(t *testing.T, s *silo.Store, want int, pairs ...api.Pair) {
	t.Helper()
	if n, err := s.Write(pairs, false); n != want || err != api.OK {
		t.Fatalf("P4: Write(%+v) = %d, %d, want %d", pairs, n, err, want)
	}
}

func refuse(t *testing.T, s *silo.Store, want api.Errno, pairs ...api.Pair) {
	t.Helper()
	for _, sync := range []bool{false, true} {
		if n, err := s.Write(pairs, sync); n != 0 || err != want {
			t.Errorf("P4: Write(%.80v) = %d, %d, want 0, %d", pairs, n, err, want)
		}
	}
}

func get(t *testing.T, s *silo.Store, key string, at int, want string) {
	t.Helper()
	if value, err := s.Get(key, at); value != want || err != api.OK {
		t.Errorf("P5: Get(%q, %d) = %q, %d, want %q", key, at, value, err, want)
	}
}

func getNot(t *testing.T, s *silo.Store, key string, at int, want api.Errno) {
	t.Helper()
	if value, err := s.Get(key, at); value != "" || err != want {
		t.Errorf("P5: Get(%.80q, %d) = %q, %d, want error %d", key, at, value, err, want)
	}
}

func scan(t *testing.T, s *silo.Store, from string, most, at int, want ...api.Pair) {
	t.Helper()
	if pairs, err := s.Scan(from, most, at); !slices.Equal(pairs, want) || err != api.OK {
		t.Errorf("P6: Scan(%.80q, %d, %d) = %+v, %d, want %+v", from, most, at, pairs, err, want)
	}
}

func scanNot(t *testing.T, s *silo.Store, most, at int, want api.Errno) {
	t.Helper()
	if pairs, err := s.Scan("", most, at); len(pairs) != 0 || err != want {
		t.Errorf("P6: Scan(\"\", %d, %d) = %+v, %d, want error %d", most, at, pairs, err, want)
	}
}

func snap(t *testing.T, s *silo.Store, want int) {
	t.Helper()
	if n, err := s.Snap(); n != want || err != api.OK {
		t.Errorf("P7: Snap() = %d, %d, want %d", n, err, want)
	}
}

func drop(t *testing.T, s *silo.Store, at int, want api.Errno) {
	t.Helper()
	if err := s.Drop(at); err != want {
		t.Errorf("P7: Drop(%d) = %d, want %d", at, err, want)
	}
}

// record: the bytes, with their ceiling behind them.
func record(bytes ...byte) string {
	return string(binary.LittleEndian.AppendUint32(bytes, crc32.ChecksumIEEE(bytes)))
}

func journal(t *testing.T, s *silo.Store, want ...string) {
	t.Helper()
	if got := s.Journal(); got != strings.Join(want, "") {
		t.Errorf("P11: Journal() = %q, want %q", got, want)
	}
}

func TestExamples(t *testing.T) {
	s := silo.New()
	write(t, s, 1, is("a", "1"))
	snap(t, s, 1)
	write(t, s, 2, is("b", "2"), gone("a"), is("c", "3"))
	getNot(t, s, "a", 0, api.ErrNone)
	get(t, s, "b", 0, "2")
	write(t, s, 3, is("a", "4"), is("a", "5"))
	get(t, s, "a", 0, "5")
	scan(t, s, "", 9, 0, is("a", "5"), is("b", "2"), is("c", "3"))
	scan(t, s, "ab", 1, 0, is("b", "2"))
	get(t, s, "a", 1, "1")
}

func TestNew(t *testing.T) {
	s := silo.New()
	if s == nil {
		t.Fatal("P3: New() gives no store")
	}
	scan(t, s, "", math.MaxInt, 0)
	getNot(t, s, "a", 0, api.ErrNone)
	getNot(t, s, "a", 1, api.ErrSnap)
	drop(t, s, 1, api.ErrSnap)
	journal(t, s)
	if tables := s.Tables(); len(tables) != 0 {
		t.Errorf("P3: a new store has the tables %+v", tables)
	}
	write(t, s, 1, is("a", "1"))
	snap(t, s, 1)
}

func TestStoresAreApart(t *testing.T) {
	a, b := silo.New(), silo.New()
	write(t, a, 1, is("k", "a"))
	snap(t, a, 1)
	scan(t, b, "", 9, 0)
	getNot(t, b, "k", 1, api.ErrSnap)
	write(t, b, 1, is("k", "b"))
	snap(t, b, 1)
	get(t, a, "k", 0, "a")
	get(t, b, "k", 0, "b")
}

func TestWriteRefuses(t *testing.T) {
	s := silo.New()
	goneWithValue := api.Pair{Key: "a", Value: "1", Gone: true}
	long := is("a", "123456789")
	refuse(t, s, api.ErrMany)
	refuse(t, s, api.ErrMany, slices.Repeat([]api.Pair{is("a", "1")}, 5)...)
	refuse(t, s, api.ErrMany, make([]api.Pair, 100000)...)
	refuse(t, s, api.ErrKey, is("", "1"))
	refuse(t, s, api.ErrKey, is("abcdefg", "1"))
	refuse(t, s, api.ErrKey, is(strings.Repeat("k", 1<<20), "1"))
	refuse(t, s, api.ErrKey, goneWithValue, long, is("", ""))
	refuse(t, s, api.ErrLong, long)
	refuse(t, s, api.ErrLong, is("a", strings.Repeat("v", 1<<20)))
	refuse(t, s, api.ErrLong, goneWithValue, long)
	refuse(t, s, api.ErrArg, is("a", "1"), goneWithValue, is("a", "2"))
	scan(t, s, "", 9, 0)
	journal(t, s)
	write(t, s, 1, is("a", "1"))
}

func TestRefusedWriteChangesNothing(t *testing.T) {
	s := silo.New()
	write(t, s, 1, is("a", "1"))
	before := s.Journal()
	refuse(t, s, api.ErrArg, is("a", "2"), is("b", "2"), api.Pair{Key: "c", Value: "2", Gone: true})
	scan(t, s, "", 9, 0, is("a", "1"))
	journal(t, s, before)
	write(t, s, 2, is("b", "2"))
}

func TestWriteTakesTheEdges(t *testing.T) {
	s := silo.New()
	write(t, s, 1, is("abcdef", "12345678"), is("\x00", ""), is("\xff\xff\xff\xff\xff\xff", "\x00"), gone("b"))
	scan(t, s, "", 9, 0, is("\x00", ""), is("abcdef", "12345678"), is("\xff\xff\xff\xff\xff\xff", "\x00"))
	write(t, s, 2, gone("never"))
	getNot(t, s, "never", 0, api.ErrNone)
	write(t, s, 3, is("k", "1"), gone("k"))
	getNot(t, s, "k", 0, api.ErrNone)
	write(t, s, 4, gone("k"), is("k", "3"))
	get(t, s, "k", 0, "3")
	write(t, s, 5, is("j", "1"), is("k", "4"), is("j", "2"), is("k", "5"))
	scan(t, s, "j", 2, 0, is("j", "2"), is("k", "5"))
}

func TestWriteAddsItsRecord(t *testing.T) {
	s := silo.New()
	first := record(1, 0, 1, 'a', 1, '1')
	second := record(3, 1, 1, 'a', 0, 1, 'b', 1, '2', 0, 1, 'c', 1, '3')
	third := record(1, 0, 1, 'a', 1, '5')
	write(t, s, 1, is("a", "1"))
	journal(t, s, first)
	write(t, s, 2, is("c", "3"), is("b", "2"), gone("a"))
	journal(t, s, first, second)
	write(t, s, 3, is("a", "4"), is("a", "5"))
	journal(t, s, first, second, third)
}

func TestGetErrors(t *testing.T) {
	s := silo.New()
	write(t, s, 1, is("a", "1"), is("empty", ""))
	for _, key := range []string{"", "abcdefg", strings.Repeat("k", 1<<20)} {
		for _, at := range []int{0, 1, -1, math.MinInt, math.MaxInt} {
			getNot(t, s, key, at, api.ErrKey)
		}
	}
	for _, key := range []string{"a", "none"} {
		for _, at := range []int{1, 2, -1, math.MinInt, math.MaxInt} {
			getNot(t, s, key, at, api.ErrSnap)
		}
	}
	getNot(t, s, "none", 0, api.ErrNone)
	getNot(t, s, "a\x00", 0, api.ErrNone)
	get(t, s, "empty", 0, "")
}

func TestGetAtSnapshots(t *testing.T) {
	s := silo.New()
	snap(t, s, 1)
	write(t, s, 1, is("a", "1"))
	snap(t, s, 2)
	write(t, s, 2, gone("a"))
	snap(t, s, 3)
	write(t, s, 3, is("a", "3"))
	getNot(t, s, "a", 1, api.ErrNone)
	get(t, s, "a", 2, "1")
	getNot(t, s, "a", 3, api.ErrNone)
	get(t, s, "a", 0, "3")
	for n := 4; n < 100; n++ {
		write(t, s, n, is("a", "later"), is("b", "later"))
	}
	get(t, s, "a", 2, "1")
	getNot(t, s, "b", 2, api.ErrNone)
}

func TestScan(t *testing.T) {
	s := silo.New()
	write(t, s, 1, is("b", "1"), is("a", "1"), is("d", "1"), is("a\x00", ""))
	write(t, s, 2, is("b", "2"), gone("d"), is("c", "2"))
	a, nul, b, c := is("a", "1"), is("a\x00", ""), is("b", "2"), is("c", "2")
	scan(t, s, "", 4, 0, a, nul, b, c)
	scan(t, s, "", 3, 0, a, nul, b)
	scan(t, s, "", 1, 0, a)
	scan(t, s, "", 0, 0)
	scan(t, s, "", math.MaxInt, 0, a, nul, b, c)
	scan(t, s, "a", 9, 0, a, nul, b, c)
	scan(t, s, "a\x00", 9, 0, nul, b, c)
	scan(t, s, "a\x00\x00", 9, 0, b, c)
	scan(t, s, "a text that is no key", 9, 0, b, c)
	scan(t, s, "c", 9, 0, c)
	scan(t, s, "d", 9, 0)
	scan(t, s, "\xff", 9, 0)
	scan(t, s, strings.Repeat("\xff", 1<<20), 9, 0)
}

func TestScanSkipsWhatIsNotSeen(t *testing.T) {
	s := silo.New()
	write(t, s, 1, is("a", "1"), is("b", "1"), is("c", "1"))
	snap(t, s, 1)
	write(t, s, 2, gone("a"), gone("b"), is("bb", "2"))
	scan(t, s, "", 1, 0, is("bb", "2"))
	scan(t, s, "", 2, 0, is("bb", "2"), is("c", "1"))
	scan(t, s, "", 9, 1, is("a", "1"), is("b", "1"), is("c", "1"))
	scan(t, s, "b", 1, 1, is("b", "1"))
}

func TestScanErrors(t *testing.T) {
	s := silo.New()
	write(t, s, 1, is("a", "1"))
	snap(t, s, 1)
	for _, most := range []int{-1, 0, 1, math.MinInt, math.MaxInt} {
		for _, at := range []int{-1, 2, math.MinInt, math.MaxInt} {
			scanNot(t, s, most, at, api.ErrSnap)
		}
	}
	for _, at := range []int{0, 1} {
		scanNot(t, s, -1, at, api.ErrArg)
		scanNot(t, s, math.MinInt, at, api.ErrArg)
	}
}

func TestSnapIsFull(t *testing.T) {
	s := silo.New()
	write(t, s, 1, is("a", "1"))
	for n := 1; n <= api.MaxSnaps; n++ {
		snap(t, s, n)
	}
	for range 3 {
		if n, err := s.Snap(); n != 0 || err != api.ErrFull {
			t.Errorf("P7: Snap() above the most = %d, %d, want 0, %d", n, err, api.ErrFull)
		}
	}
	getNot(t, s, "a", api.MaxSnaps+1, api.ErrSnap)
	drop(t, s, 2, api.OK)
	snap(t, s, api.MaxSnaps+1)
	get(t, s, "a", api.MaxSnaps+1, "1")
}

func TestDrop(t *testing.T) {
	s := silo.New()
	for n := 1; n <= 3; n++ {
		write(t, s, n, is("a", strings.Repeat("x", n)))
		snap(t, s, n)
	}
	for _, at := range []int{0, -1, 4, math.MinInt, math.MaxInt} {
		drop(t, s, at, api.ErrSnap)
	}
	drop(t, s, 2, api.OK)
	drop(t, s, 2, api.ErrSnap)
	getNot(t, s, "a", 2, api.ErrSnap)
	scanNot(t, s, 1, 2, api.ErrSnap)
	get(t, s, "a", 1, "x")
	get(t, s, "a", 3, "xxx")
	drop(t, s, 3, api.OK)
	snap(t, s, 4)
	getNot(t, s, "a", 3, api.ErrSnap)
	get(t, s, "a", 4, "xxx")
	get(t, s, "a", 1, "x")
}

func TestSnapNumbersNeverComeAgain(t *testing.T) {
	s := silo.New()
	for n := 1; n <= 50; n++ {
		snap(t, s, n)
		drop(t, s, n, api.OK)
		getNot(t, s, "a", n, api.ErrSnap)
	}
}
