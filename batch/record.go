package batch

import "silo/api"

// Record tells the bytes of a batch's settled pairs.
func Record(settled []api.Pair) []byte {
	record := []byte{byte(len(settled))}
	for _, pair := range settled {
		record = appendPair(record, pair)
	}
	return appendNumber(record, Ceiling(record))
}

func appendPair(record []byte, pair api.Pair) []byte {
	if pair.Gone {
		return appendText(append(record, 1), pair.Key)
	}
	return appendText(appendText(append(record, 0), pair.Key), pair.Value)
}

// appendText needs one byte for the length: no key and no value is longer than that can tell.
func appendText(record []byte, text string) []byte {
	return append(append(record, byte(len(text))), text...)
}

func appendNumber(record []byte, number uint32) []byte {
	return append(record, byte(number), byte(number>>8), byte(number>>16), byte(number>>24))
}

const (
	ceilingStart = 4294967295
	ceilingTaps  = 3988292384
)

// Ceiling tells the number by which bytes are known to be whole.
func Ceiling(bytes []byte) uint32 {
	number := uint32(ceilingStart)
	for _, b := range bytes {
		number = shiftByte(number ^ uint32(b))
	}
	return ^number
}

func shiftByte(number uint32) uint32 {
	for range 8 {
		odd := number&1 == 1
		number >>= 1
		if odd {
			number ^= ceilingTaps
		}
	}
	return number
}
