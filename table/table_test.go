package table

import (
	"fmt"
	"math"
	"math/rand"
	"slices"
	"testing"

	"silo/api"
)

func entry(key string, seq int) api.Entry {
	return api.Entry{Key: key, Seq: seq, Value: fmt.Sprint(key, seq)}
}

func memory(entries ...api.Entry) *Memory {
	m := &Memory{}
	for _, e := range entries {
		m.Lay([]api.Entry{e})
	}
	return m
}

func TestFind(t *testing.T) {
	m := memory(entry("b", 2), entry("a", 1), entry("b", 5), entry("b", 4), entry("ba", 3))
	for _, c := range []struct {
		key  string
		seq  int
		want int
	}{
		{"a", 0, 0}, {"a", 1, 1}, {"a", 9, 1},
		{"b", 1, 0}, {"b", 2, 2}, {"b", 3, 2}, {"b", 4, 4}, {"b", 5, 5}, {"b", math.MaxInt, 5}, {"b", math.MinInt, 0},
		{"ba", 2, 0}, {"ba", 3, 3},
		{"", 9, 0}, {"a\x00", 9, 0}, {"c", 9, 0},
	} {
		got, ok := m.Find(c.key, c.seq)
		if ok != (c.want != 0) || ok && got != entry(c.key, c.want) {
			t.Errorf("Find(%q, %d) = %+v, %v, want Seq %d", c.key, c.seq, got, ok, c.want)
		}
	}
	if got, ok := memory().Find("a", 1); ok || got != (api.Entry{}) {
		t.Errorf("Find in an empty table = %+v, %v", got, ok)
	}
}

func TestFindTellsDeletions(t *testing.T) {
	deleted := api.Entry{Key: "a", Seq: 2, Gone: true}
	m := memory(entry("a", 1), deleted)
	if got, ok := m.Find("a", 2); !ok || got != deleted {
		t.Errorf("Find of a deleted key = %+v, %v", got, ok)
	}
}

func TestKeyFrom(t *testing.T) {
	m := memory(entry("b", 2), entry("b", 3), entry("d", 1), entry("\xff", 4))
	for _, c := range []struct {
		from, want string
		ok         bool
	}{
		{"", "b", true}, {"b", "b", true}, {"b\x00", "d", true}, {"a longer text", "b", true}, {"d", "d", true}, {"e", "\xff", true}, {"\xff", "\xff", true}, {"\xff\x00", "", false},
	} {
		if got, ok := m.KeyFrom(c.from); got != c.want || ok != c.ok {
			t.Errorf("KeyFrom(%q) = %q, %v, want %q, %v", c.from, got, ok, c.want, c.ok)
		}
	}
	if got, ok := memory().KeyFrom(""); got != "" || ok {
		t.Errorf("KeyFrom in an empty table = %q, %v", got, ok)
	}
}

func TestLayKeepsTheOrder(t *testing.T) {
	random := rand.New(rand.NewSource(1))
	keys := []string{"\x00", "a", "a\x00", "ab", "b", "\x80", "\xff", "\xff\xff"}
	for range 2000 {
		var all []api.Entry
		for seq := range 5 {
			for _, key := range keys {
				if random.Intn(3) == 0 {
					all = append(all, entry(key, seq))
				}
			}
		}
		random.Shuffle(len(all), func(i, j int) { all[i], all[j] = all[j], all[i] })
		m := &Memory{}
		for rest := all; len(rest) > 0; {
			n := random.Intn(len(rest) + 1)
			part := slices.Clone(rest[:n])
			slices.SortFunc(part, order)
			before := slices.Clone(part)
			m.Lay(part)
			if !slices.Equal(part, before) {
				t.Fatalf("Lay changed what it was given: %+v, was %+v", part, before)
			}
			rest = rest[n:]
		}
		slices.SortFunc(all, order)
		if !slices.Equal(m.entries, all) {
			t.Fatalf("laid together: %+v, want %+v", m.entries, all)
		}
	}
}

func gone(key string, seq int) api.Entry {
	return api.Entry{Key: key, Seq: seq, Gone: true}
}

// laid: a table of entries, in whichever order they come.
func laid(level int, entries ...api.Entry) Laid {
	return Laid{run: memory(entries...).run, Level: level}
}

func isLaid(t *testing.T, got Laid, level int, want ...api.Entry) {
	t.Helper()
	if got.Level != level || !slices.Equal(got.entries, want) {
		t.Errorf("got the table %+v, want %+v on level %d", got, want, level)
	}
	if told := got.Tell(); told.Level != level || !slices.Equal(told.Entries, want) {
		t.Errorf("P10: Tell() = %+v, want %+v on level %d", told, want, level)
	}
	if got.IsEmpty() != (len(want) == 0) {
		t.Errorf("IsEmpty() = %v of %+v", got.IsEmpty(), want)
	}
}

func TestDown(t *testing.T) {
	m := memory(entry("a", 1), gone("a", 4), entry("a", 6), gone("b", 2))
	for _, c := range []struct {
		seqs []int
		want []api.Entry
	}{
		{nil, []api.Entry{entry("a", 6), gone("b", 2)}},
		{[]int{0, 6, 9}, []api.Entry{entry("a", 6), gone("b", 2)}},
		{[]int{1}, []api.Entry{entry("a", 6), entry("a", 1), gone("b", 2)}},
		{[]int{3}, []api.Entry{entry("a", 6), entry("a", 1), gone("b", 2)}},
		{[]int{4}, []api.Entry{entry("a", 6), gone("a", 4), gone("b", 2)}},
		{[]int{5}, []api.Entry{entry("a", 6), gone("a", 4), gone("b", 2)}},
		{[]int{5, 1, 5}, []api.Entry{entry("a", 6), gone("a", 4), entry("a", 1), gone("b", 2)}},
	} {
		before := slices.Clone(m.entries)
		isLaid(t, m.Down(c.seqs), 0, c.want...)
		if !slices.Equal(m.entries, before) {
			t.Fatalf("Down(%v) changed the table in memory: %+v, was %+v", c.seqs, m.entries, before)
		}
	}
}

func TestMerge(t *testing.T) {
	tables := []Laid{
		laid(0, gone("a", 9), entry("c", 8)),
		laid(0, entry("b", 6), gone("d", 6)),
		laid(1, entry("a", 2), gone("b", 3), entry("b", 1), gone("c", 4)),
	}
	isLaid(t, Merge(tables, 1, nil), 1, gone("a", 9), entry("b", 6), entry("c", 8), gone("d", 6))
	isLaid(t, Merge(tables, 1, []int{3}), 1, gone("a", 9), entry("a", 2), entry("b", 6), gone("b", 3), entry("c", 8), gone("d", 6))
	isLaid(t, Merge(tables, api.LastLevel, nil), api.LastLevel, entry("b", 6), entry("c", 8))
	isLaid(t, Merge(tables, api.LastLevel, []int{3, 4}), api.LastLevel, gone("a", 9), entry("a", 2), entry("b", 6), entry("c", 8))
	isLaid(t, Merge(tables, api.LastLevel, []int{1}), api.LastLevel, entry("b", 6), entry("b", 1), entry("c", 8))
	isLaid(t, Merge([]Laid{laid(1, gone("a", 1))}, api.LastLevel, nil), api.LastLevel)
	isLaid(t, tables[2], 1, entry("a", 2), gone("b", 3), entry("b", 1), gone("c", 4))
}

func TestKindsShareTheRun(t *testing.T) {
	table := laid(1, entry("b", 2), entry("a", 1))
	table.Lay([]api.Entry{entry("a", 3)})
	isLaid(t, table, 1, entry("a", 3), entry("a", 1), entry("b", 2))
	if got, ok := table.Find("a", 2); !ok || got != entry("a", 1) {
		t.Errorf("Find in a table that was laid down = %+v, %v", got, ok)
	}
	if got, ok := table.KeyFrom("aa"); !ok || got != "b" {
		t.Errorf("KeyFrom in a table that was laid down = %q, %v", got, ok)
	}
}

func TestOrder(t *testing.T) {
	in := []api.Entry{entry("\x00", 1), entry("a", 3), entry("a", 2), entry("a\x00", 9), entry("ab", 1), entry("b", 7), entry("\x80", 1), entry("\xff", 1)}
	for i, a := range in {
		for j, b := range in {
			if got := order(a, b); (got < 0) != (i < j) || (got == 0) != (i == j) {
				t.Errorf("order(%+v, %+v) = %d", a, b, got)
			}
		}
	}
}

func TestNewMemory(t *testing.T) {
	in := []api.Entry{entry("b", 1), gone("a", 1), entry("a", 3), entry("\xff", 2), entry("a", 2)}
	before := slices.Clone(in)
	m := NewMemory(in)
	if !slices.Equal(in, before) {
		t.Errorf("NewMemory changed what it was given: %+v, was %+v", in, before)
	}
	in[0] = entry("other", 9)
	m.Lay([]api.Entry{entry("ab", 4)})
	if want := []api.Entry{entry("a", 3), entry("a", 2), gone("a", 1), entry("ab", 4), entry("b", 1), entry("\xff", 2)}; !slices.Equal(m.entries, want) {
		t.Errorf("NewMemory made %+v, want %+v", m.entries, want)
	}
	if none := NewMemory(nil); len(none.entries) != 0 {
		t.Errorf("NewMemory of nothing has %+v", none.entries)
	}
}
