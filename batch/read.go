package batch

import (
	"strings"

	"silo/api"
)

// ReadAll tells the settled pairs of each batch whose record the text has, from its first byte on as long as a whole record begins, and where the last of them ends.
func ReadAll(text string) ([][]api.Pair, int) {
	var batches [][]api.Pair
	end := 0
	settled, size := read(text)
	for size > 0 {
		batches = append(batches, settled)
		end += size
		settled, size = read(text[end:])
	}
	return batches, end
}

// read tells the settled pairs of the batch whose record the text begins with, and how many bytes that has: 0, if no whole record begins there.
func read(text string) ([]api.Pair, int) {
	pairs := takePairs(text)
	if Check(pairs) != api.OK {
		return nil, 0
	}
	settled := Settle(pairs)
	record := Record(settled)
	// The pairs were taken without a doubt. That the text has the record that they make settles all doubts at once: missing bytes, other marks, the order of the keys, the ceiling.
	if !strings.HasPrefix(text, string(record)) {
		return nil, 0
	}
	return settled, len(record)
}

// takePairs tells the pairs of a record, as far as the text goes.
func takePairs(text string) []api.Pair {
	rest := reader(text)
	var pairs []api.Pair
	for range rest.takeNumber() {
		pairs = append(pairs, rest.takePair())
	}
	return pairs
}

// reader is what was not taken yet of a text.
type reader string

func (r *reader) takePair() api.Pair {
	if r.takeNumber() != 0 {
		return api.Pair{Key: r.takeText(), Gone: true}
	}
	key := r.takeText()
	return api.Pair{Key: key, Value: r.takeText()}
}

func (r *reader) takeText() string { return r.take(r.takeNumber()) }

// takeNumber takes a byte as a number: 0, if there is none any more.
func (r *reader) takeNumber() int {
	taken := r.take(1)
	if taken == "" {
		return 0
	}
	return int(taken[0])
}

// take takes so many bytes, or all that there are.
func (r *reader) take(size int) string {
	size = min(size, len(*r))
	taken := (*r)[:size]
	*r = (*r)[size:]
	return string(taken)
}
