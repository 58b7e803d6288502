package batch

import (
	"encoding/binary"
	"hash/crc32"
	"math/rand"
	"reflect"
	"strings"
	"testing"
	"unsafe"

	"silo/api"
)

// closed: the bytes, with their ceiling behind them.
func closed(text string) string {
	return string(binary.LittleEndian.AppendUint32([]byte(text), crc32.ChecksumIEEE([]byte(text))))
}

func reads(t *testing.T, text string, wantEnd int, want ...[]api.Pair) {
	t.Helper()
	got, end := ReadAll(text)
	if end != wantEnd || len(got) != len(want) || len(want) > 0 && !reflect.DeepEqual(got, want) {
		t.Errorf("P12: ReadAll(%.80q) = %+v, %d, want %+v, %d", text, got, end, want, wantEnd)
	}
}

func TestReadAllTakesTheEdges(t *testing.T) {
	for _, c := range []struct {
		body string
		want []api.Pair
	}{
		{"\x01\x00\x01a\x011", []api.Pair{is("a", "1")}},
		{"\x01\x01\x01a", []api.Pair{gone("a")}},
		{"\x01\x00\x01\x00\x00", []api.Pair{is("\x00", "")}},
		{"\x01\x00\x06\xff\xff\xff\xff\xff\xff\x08\x00\xff345678", []api.Pair{is("\xff\xff\xff\xff\xff\xff", "\x00\xff345678")}},
		{"\x01\x01\x06abcdef", []api.Pair{gone("abcdef")}},
		{"\x02\x00\x01a\x00\x01\x02a\x00", []api.Pair{is("a", ""), gone("a\x00")}},
		{"\x04\x01\x01a\x00\x02ab\x019\x01\x01b\x00\x01\xff\x00", []api.Pair{gone("a"), is("ab", "9"), gone("b"), is("\xff", "")}},
	} {
		text := closed(c.body)
		reads(t, text, len(text), c.want)
		reads(t, text+text, 2*len(text), c.want, c.want)
		reads(t, text+"\x00", len(text), c.want)
		reads(t, "\x00"+text, 0)
		reads(t, c.body, 0)
	}
}

func TestReadAllStopsAtWhatIsNoBatch(t *testing.T) {
	first := closed("\x01\x00\x01a\x011")
	for name, body := range map[string]string{
		"nothing":                    "",
		"no pairs":                   "\x00",
		"no pairs, but bytes":        "\x00\x00\x01a\x011",
		"five pairs":                 "\x05\x01\x01a\x01\x01b\x01\x01c\x01\x01d\x01\x01e",
		"more pairs than told":       "\x01\x01\x01a\x01\x01b",
		"fewer pairs than told":      "\x02\x01\x01a",
		"a mark of 2":                "\x01\x02\x01a",
		"a mark of 2 with a value":   "\x01\x02\x01a\x011",
		"a mark of 255":              "\x01\xff\x01a",
		"a mark of 128":              "\x01\x80\x01a",
		"a deletion with a value":    "\x01\x01\x01a\x011",
		"a deletion, empty value":    "\x01\x01\x01a\x00",
		"a pair without a value":     "\x01\x00\x01a",
		"an empty key":               "\x01\x00\x00\x011",
		"an empty key, deleted":      "\x01\x01\x00",
		"a key of seven":             "\x01\x01\x07abcdefg",
		"a key of 255":               "\x01\x01\xff" + strings.Repeat("k", 255),
		"a value of nine":            "\x01\x00\x01a\x09123456789",
		"a value of 255":             "\x01\x00\x01a\xff" + strings.Repeat("v", 255),
		"keys out of order":          "\x02\x00\x01b\x00\x00\x01a\x00",
		"keys out of order, deleted": "\x03\x01\x01a\x01\x01c\x01\x01b",
		"the longer key first":       "\x02\x01\x02ab\x01\x01a",
		"a key twice":                "\x02\x00\x01a\x00\x00\x01a\x00",
		"a key twice, deleted":       "\x02\x00\x01a\x011\x01\x01a",
		"a key that is cut":          "\x01\x01\x03ab",
		"a value that is cut":        "\x01\x00\x01a\x0212"[:6],
	} {
		t.Run(name, func(t *testing.T) {
			text := closed(body)
			reads(t, text, 0)
			reads(t, text+first, 0)
			reads(t, first+text, len(first), []api.Pair{is("a", "1")})
			reads(t, first+text+first, len(first), []api.Pair{is("a", "1")})
		})
	}
}

func TestReadAllOfOtherBytes(t *testing.T) {
	for _, text := range []string{"", "\x00", "\x01", "\xff", "\x04", strings.Repeat("\x00", 1<<20), strings.Repeat("\x01", 1<<20), strings.Repeat("\xff", 1<<20), "a text"} {
		reads(t, text, 0)
	}
}

// someRecords: three records one behind the other, their batches, and where each begins and the last ends.
func someRecords() (string, [][]api.Pair, []int) {
	batches := [][]api.Pair{
		{is("a", "1")},
		{gone("a"), is("abcdef", "12345678"), is("b", ""), gone("\xff")},
		{gone("\x00")},
	}
	text, places := "", []int{0}
	for _, settled := range batches {
		text += string(Record(settled))
		places = append(places, len(text))
	}
	return text, batches, places
}

// wholeAhead tells how many records end at a place or ahead of it.
func wholeAhead(places []int, at int) int {
	whole := 0
	for whole+1 < len(places) && places[whole+1] <= at {
		whole++
	}
	return whole
}

func TestReadAllOfCutRecords(t *testing.T) {
	text, batches, places := someRecords()
	for cut := range len(text) + 1 {
		whole := wholeAhead(places, cut)
		reads(t, text[:cut], places[whole], batches[:whole]...)
	}
}

func TestReadAllOfChangedBytes(t *testing.T) {
	text, batches, places := someRecords()
	for at := range len(text) {
		whole := wholeAhead(places, at)
		for change := 1; change < 256; change++ {
			changed := []byte(text)
			changed[at] ^= byte(change)
			reads(t, string(changed), places[whole], batches[:whole]...)
		}
	}
}

func TestReadAllReadsTheCeilingLeastByteFirst(t *testing.T) {
	text := closed("\x01\x00\x01a\x011")
	turned := []byte(text)
	for i := range 4 {
		turned[6+i] = text[9-i]
	}
	reads(t, string(turned), 0)
	for _, ceiling := range []string{"\x00\x00\x00\x00", "\xff\xff\xff\xff"} {
		reads(t, text[:6]+ceiling, 0)
	}
}

// strictSize tells how many bytes the whole record has that a text begins with, by the rules one after the other; 0 if there is none.
func strictSize(text string) int {
	at, last := 1, ""
	if text == "" || text[0] < 1 || text[0] > 4 {
		return 0
	}
	for range text[0] {
		if at+2 > len(text) || text[at] > 1 || text[at+1] < 1 || text[at+1] > 6 {
			return 0
		}
		isGone, size := text[at] == 1, int(text[at+1])
		at += 2
		if at+size > len(text) || text[at:at+size] <= last {
			return 0
		}
		last = text[at : at+size]
		at += size
		if isGone {
			continue
		}
		if at+1 > len(text) || text[at] > 8 || at+1+int(text[at]) > len(text) {
			return 0
		}
		at += 1 + int(text[at])
	}
	if at+4 > len(text) || binary.LittleEndian.Uint32([]byte(text[at:])) != crc32.ChecksumIEEE([]byte(text[:at])) {
		return 0
	}
	return at + 4
}

// drawnBody: bytes that are nearly a batch's, and sometimes are.
func drawnBody(random *rand.Rand) string {
	drawn := func(most, over int) byte {
		if random.Intn(12) == 0 {
			return byte(random.Intn(most + over + 1))
		}
		return byte(1 + random.Intn(most))
	}
	count := drawn(3, 2)
	body := []byte{count}
	for i := range count {
		mark := byte(random.Intn(2))
		if random.Intn(20) == 0 {
			mark = 2
		}
		size := drawn(3, 5)
		body = append(body, mark, size)
		for range size {
			body = append(body, byte('a'+int(i)+random.Intn(2)))
		}
		if mark == 0 {
			size = byte(random.Intn(api.MaxValue + 2))
			body = append(body, size)
			for range size {
				body = append(body, byte(random.Intn(256)))
			}
		}
	}
	return string(body)
}

func TestReadAllIsStrict(t *testing.T) {
	random := rand.New(rand.NewSource(3))
	whole := 0
	for range 20000 {
		text := closed(drawnBody(random))
		size := strictSize(text)
		batches, end := ReadAll(text)
		if end != size || len(batches) != min(size, 1) {
			t.Fatalf("P12: ReadAll(%q) = %+v, %d, want the place %d", text, batches, end, size)
		}
		if size > 0 {
			whole++
			if got := string(Record(batches[0])); got != text {
				t.Fatalf("P12: ReadAll(%q) = %+v, whose record is %q", text, batches, got)
			}
		}
	}
	if whole < 1000 || whole > 19000 {
		t.Errorf("%d of the drawn bodies are whole: too few of one kind", whole)
	}
}

func TestReadAllKeepsNoText(t *testing.T) {
	text, _, _ := someRecords()
	start := uintptr(unsafe.Pointer(unsafe.StringData(text)))
	batches, _ := ReadAll(text)
	for _, settled := range batches {
		for _, pair := range settled {
			for _, part := range []string{pair.Key, pair.Value} {
				if at := uintptr(unsafe.Pointer(unsafe.StringData(part))); part != "" && at >= start && at < start+uintptr(len(text)) {
					t.Errorf("P2: %q is a piece of the text that was handed in", part)
				}
			}
		}
	}
}
