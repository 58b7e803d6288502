package batch

import (
	"bytes"
	"encoding/binary"
	"hash/crc32"
	"testing"

	"silo/api"
)

func TestCeiling(t *testing.T) {
	if got := Ceiling([]byte("123456789")); got != 3421780262 {
		t.Errorf("Ceiling of 123456789 = %d", got)
	}
	if got := Ceiling(nil); got != 0 {
		t.Errorf("Ceiling of no bytes = %d", got)
	}
	var all []byte
	for i := range 256 {
		all = append(all, byte(i))
		if got, want := Ceiling(all), crc32.ChecksumIEEE(all); got != want {
			t.Errorf("Ceiling of the bytes 0 to %d = %d, want %d", i, got, want)
		}
	}
}

func TestRecord(t *testing.T) {
	for _, c := range []struct {
		settled []api.Pair
		want    []byte
	}{
		{[]api.Pair{is("a", "1")}, []byte{1, 0, 1, 97, 1, 49}},
		{[]api.Pair{gone("a")}, []byte{1, 1, 1, 97}},
		{[]api.Pair{is("a", "")}, []byte{1, 0, 1, 97, 0}},
		{[]api.Pair{gone("a"), is("b", "2"), is("c", "3")}, []byte{3, 1, 1, 97, 0, 1, 98, 1, 50, 0, 1, 99, 1, 51}},
		{[]api.Pair{is("\x00\xffcdef", "1234567\x00")}, []byte("\x01\x00\x06\x00\xffcdef\x081234567\x00")},
	} {
		want := binary.LittleEndian.AppendUint32(bytes.Clone(c.want), crc32.ChecksumIEEE(c.want))
		if got := Record(c.settled); !bytes.Equal(got, want) {
			t.Errorf("Record(%+v) = %v, want %v", c.settled, got, want)
		}
	}
}
