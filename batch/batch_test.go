package batch

import (
	"slices"
	"strings"
	"testing"
	"unsafe"

	"silo/api"
)

func is(key, value string) api.Pair { return api.Pair{Key: key, Value: value} }

func gone(key string) api.Pair { return api.Pair{Key: key, Gone: true} }

func TestCheckNamesTheFirstError(t *testing.T) {
	goneWithValue := api.Pair{Key: "a", Value: "1", Gone: true}
	long := is("a", "123456789")
	for _, c := range []struct {
		name  string
		pairs []api.Pair
		want  api.Errno
	}{
		{"nil", nil, api.ErrMany},
		{"empty", []api.Pair{}, api.ErrMany},
		{"one", []api.Pair{is("a", "1")}, api.OK},
		{"four", []api.Pair{is("a", "1"), is("b", "2"), is("c", "3"), gone("d")}, api.OK},
		{"five", []api.Pair{is("a", ""), is("b", ""), is("c", ""), is("d", ""), is("e", "")}, api.ErrMany},
		{"five of one key", slices.Repeat([]api.Pair{is("a", "1")}, 5), api.ErrMany},
		{"five faults", slices.Repeat([]api.Pair{{}}, 5), api.ErrMany},
		{"no key", []api.Pair{is("", "1")}, api.ErrKey},
		{"key of six", []api.Pair{is("abcdef", "1")}, api.OK},
		{"key of seven", []api.Pair{is("abcdefg", "1")}, api.ErrKey},
		{"key of three runes, nine bytes", []api.Pair{is("€€€", "1")}, api.ErrKey},
		{"value of eight", []api.Pair{is("a", "12345678")}, api.OK},
		{"value of nine", []api.Pair{long}, api.ErrLong},
		{"empty value", []api.Pair{is("a", "")}, api.OK},
		{"gone with value", []api.Pair{goneWithValue}, api.ErrArg},
		{"long ahead of key", []api.Pair{long, is("", "1")}, api.ErrKey},
		{"gone ahead of key", []api.Pair{goneWithValue, gone("")}, api.ErrKey},
		{"gone ahead of long", []api.Pair{goneWithValue, long}, api.ErrLong},
		{"gone with a long value", []api.Pair{{Key: "a", Value: "123456789", Gone: true}}, api.ErrLong},
		{"fault in a pair that does not count", []api.Pair{goneWithValue, is("a", "2")}, api.ErrArg},
		{"fault in the last", []api.Pair{is("a", ""), is("b", ""), is("c", ""), goneWithValue}, api.ErrArg},
	} {
		if got := Check(c.pairs); got != c.want {
			t.Errorf("P4: Check of %s = %d, want %d", c.name, got, c.want)
		}
	}
}

func TestIsKey(t *testing.T) {
	for text, want := range map[string]bool{
		"": false, "a": true, "\x00": true, "\xff\xfe": true, "abcdef": true, "abcdefg": false, strings.Repeat("x", 1000): false,
	} {
		if IsKey(text) != want {
			t.Errorf("IsKey(%q) = %v", text, !want)
		}
	}
}

func TestSettleKeepsTheLastOfEachKey(t *testing.T) {
	for _, c := range []struct{ pairs, want []api.Pair }{
		{[]api.Pair{is("a", "1")}, []api.Pair{is("a", "1")}},
		{[]api.Pair{is("b", "2"), gone("a"), is("c", "3")}, []api.Pair{gone("a"), is("b", "2"), is("c", "3")}},
		{[]api.Pair{is("a", "4"), is("a", "5")}, []api.Pair{is("a", "5")}},
		{[]api.Pair{is("a", "1"), gone("a")}, []api.Pair{gone("a")}},
		{[]api.Pair{gone("a"), is("a", "1")}, []api.Pair{is("a", "1")}},
		{[]api.Pair{is("b", "1"), is("a", "1"), is("b", "2"), is("a", "2")}, []api.Pair{is("a", "2"), is("b", "2")}},
		{[]api.Pair{is("\xff", "1"), is("ab", "2"), is("a", "3"), is("a\x00", "4")}, []api.Pair{is("a", "3"), is("a\x00", "4"), is("ab", "2"), is("\xff", "1")}},
	} {
		in := slices.Clone(c.pairs)
		if got := Settle(c.pairs); !slices.Equal(got, c.want) {
			t.Errorf("Settle(%+v) = %+v, want %+v", in, got, c.want)
		}
		if !slices.Equal(in, c.pairs) {
			t.Errorf("P2: Settle changed %+v into %+v", in, c.pairs)
		}
	}
}

func TestSettleSharesNothing(t *testing.T) {
	text := strings.Repeat("k", 5) + strings.Repeat("v", 5)
	pairs := []api.Pair{is(text[:5], text[5:])}
	got := Settle(pairs)
	if unsafe.SliceData(got) == unsafe.SliceData(pairs) {
		t.Error("P2: the list that was handed in is kept")
	}
	if unsafe.StringData(got[0].Key) == unsafe.StringData(pairs[0].Key) || unsafe.StringData(got[0].Value) == unsafe.StringData(pairs[0].Value) {
		t.Error("P2: a text that was handed in is kept")
	}
}

func TestEntries(t *testing.T) {
	got := Entries([]api.Pair{gone("a"), is("b", "2")}, 7)
	want := []api.Entry{{Key: "a", Seq: 7, Gone: true}, {Key: "b", Seq: 7, Value: "2"}}
	if !slices.Equal(got, want) {
		t.Errorf("Entries = %+v, want %+v", got, want)
	}
}
