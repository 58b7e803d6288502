package silo_test

import (
	"cmp"
	"math"
	"math/rand"
	"slices"
	"strconv"
	"strings"
	"testing"

	"silo/api"
	"silo/silo"
)

// model keeps every state that there was, so that what it reads hangs on no entry; beside them the entries of each level, for Tables alone, and the batches of the journal with their records.
type model struct {
	states   []map[string]string
	snaps    map[int]int
	lastSnap int
	memory   []api.Entry
	laid     [api.LastLevel + 1][]api.Table
	batches  [][]api.Pair
	records  []string
	synced   int // how many of the records are
}

func newModel() *model {
	return &model{states: []map[string]string{{}}, snaps: map[int]int{}}
}

func (m *model) last() int { return len(m.states) - 1 }

func (m *model) write(pairs []api.Pair, sync bool) int {
	state := map[string]string{}
	for key, value := range m.states[m.last()] {
		state[key] = value
	}
	for _, pair := range pairs {
		if pair.Gone {
			delete(state, pair.Key)
		} else {
			state[pair.Key] = pair.Value
		}
	}
	m.states = append(m.states, state)
	var counting []api.Pair
	for i, pair := range pairs {
		if !slices.ContainsFunc(pairs[i+1:], func(later api.Pair) bool { return later.Key == pair.Key }) {
			m.memory = append(m.memory, api.Entry{Key: pair.Key, Seq: m.last(), Gone: pair.Gone, Value: pair.Value})
			counting = append(counting, pair)
		}
	}
	m.batches = append(m.batches, pairs)
	m.records = append(m.records, recordOf(counting))
	if sync {
		m.synced = len(m.records)
	}
	return m.last()
}

// recordOf: the record of pairs of different keys.
func recordOf(pairs []api.Pair) string {
	slices.SortFunc(pairs, func(a, b api.Pair) int { return cmp.Compare(a.Key, b.Key) })
	bytes := []byte{byte(len(pairs))}
	for _, pair := range pairs {
		if pair.Gone {
			bytes = append(bytes, 1, byte(len(pair.Key)))
			bytes = append(bytes, pair.Key...)
			continue
		}
		bytes = append(bytes, 0, byte(len(pair.Key)))
		bytes = append(bytes, pair.Key...)
		bytes = append(bytes, byte(len(pair.Value)))
		bytes = append(bytes, pair.Value...)
	}
	return record(bytes...)
}

// crash leaves the first bytes that are not synced, of each record all or nothing.
func (m *model) crash(bytes int) {
	left := m.synced
	for left < len(m.records) && bytes >= len(m.records[left]) {
		bytes -= len(m.records[left])
		left++
	}
	lost := len(m.records) - left
	m.states = m.states[:len(m.states)-lost]
	m.memory = slices.DeleteFunc(m.memory, func(entry api.Entry) bool { return entry.Seq > m.last() })
	m.batches, m.records, m.synced = m.batches[:left], m.records[:left], left
	m.snaps = map[int]int{}
}

// loose: how many bytes of the journal are not synced.
func (m *model) loose() int { return len(strings.Join(m.records[m.synced:], "")) }

func (m *model) flush() api.Errno {
	if len(m.records) == 0 {
		return api.ErrEmpty
	}
	m.laid[0] = append([]api.Table{on(0, m.needed(m.memory, 0)...)}, m.laid[0]...)
	m.memory, m.batches, m.records, m.synced = nil, nil, nil, 0
	return api.OK
}

func (m *model) merge(level int) api.Errno {
	if len(m.laid[level]) == 0 {
		return api.ErrEmpty
	}
	var all []api.Entry
	for _, table := range slices.Concat(m.laid[level], m.laid[level+1]) {
		all = append(all, table.Entries...)
	}
	m.laid[level], m.laid[level+1] = nil, nil
	if needed := m.needed(all, level+1); len(needed) > 0 {
		m.laid[level+1] = []api.Table{on(level+1, needed...)}
	}
	return api.OK
}

// needed asks of each entry by itself whether it is needed, and takes last deletions one by one.
func (m *model) needed(entries []api.Entry, level int) []api.Entry {
	var kept []api.Entry
	for _, entry := range entries {
		if m.isNeeded(entry, entries) {
			kept = append(kept, entry)
		}
	}
	for level == api.LastLevel {
		last := slices.IndexFunc(kept, func(entry api.Entry) bool { return entry.Gone && isLast(entry, kept) })
		if last < 0 {
			break
		}
		kept = slices.Delete(kept, last, last+1)
	}
	slices.SortFunc(kept, func(a, b api.Entry) int {
		return cmp.Or(cmp.Compare(a.Key, b.Key), b.Seq-a.Seq)
	})
	return kept
}

func (m *model) isNeeded(entry api.Entry, entries []api.Entry) bool {
	ahead := math.MaxInt
	for _, other := range entries {
		if other.Key == entry.Key && other.Seq > entry.Seq {
			ahead = min(ahead, other.Seq)
		}
	}
	for _, seq := range m.snaps {
		if entry.Seq <= seq && seq < ahead {
			return true
		}
	}
	return ahead == math.MaxInt
}

func isLast(entry api.Entry, entries []api.Entry) bool {
	return !slices.ContainsFunc(entries, func(other api.Entry) bool {
		return other.Key == entry.Key && other.Seq < entry.Seq
	})
}

func (m *model) scan(from string, most, at int) []api.Pair {
	var pairs []api.Pair
	for key, value := range m.states[at] {
		if key >= from {
			pairs = append(pairs, is(key, value))
		}
	}
	slices.SortFunc(pairs, func(a, b api.Pair) int { return cmp.Compare(a.Key, b.Key) })
	return pairs[:min(most, len(pairs))]
}

func modelKeys() []string {
	return []string{"\x00", "a", "a\x00", "aa", "ab", "b", "\x7f", "\x80", "\xff", "\xff\xff", "zzzzzz"}
}

func randomBatch(random *rand.Rand) []api.Pair {
	pairs := make([]api.Pair, 1+random.Intn(api.MaxPairs))
	for i := range pairs {
		key := modelKeys()[random.Intn(len(modelKeys()))]
		if random.Intn(3) == 0 {
			pairs[i] = gone(key)
		} else {
			pairs[i] = is(key, strconv.Itoa(random.Intn(1000)))
		}
	}
	return pairs
}

func TestStoreTellsWhatTheBatchesMake(t *testing.T) {
	random := rand.New(rand.NewSource(2))
	for range 100 {
		s, m := silo.New(), newModel()
		for range 60 {
			step(t, random, s, m)
			compareAll(t, random, s, m)
			if t.Failed() {
				return
			}
		}
		compareLoaded(t, random, m)
	}
}

func compareAll(t *testing.T, random *rand.Rand, s *silo.Store, m *model) {
	t.Helper()
	tables(t, s, slices.Concat(m.laid[:]...)...)
	journal(t, s, m.records...)
	compare(t, random, s, m, 0, m.last())
	for at := -1; at <= m.lastSnap+1; at++ {
		if seq, ok := m.snaps[at]; ok {
			compare(t, random, s, m, at, seq)
		} else if at != 0 {
			getNot(t, s, "a", at, api.ErrSnap)
		}
	}
}

// compareLoaded loads the model's journal, and goes on with what that gives.
func compareLoaded(t *testing.T, random *rand.Rand, m *model) {
	t.Helper()
	loaded := newModel()
	for _, pairs := range m.batches {
		loaded.write(pairs, true)
	}
	s := load(t, strings.Join(m.records, ""), len(strings.Join(m.records, "")), api.OK)
	for range 20 {
		compareAll(t, random, s, loaded)
		step(t, random, s, loaded)
		if t.Failed() {
			return
		}
	}
}

func step(t *testing.T, random *rand.Rand, s *silo.Store, m *model) {
	t.Helper()
	switch random.Intn(13) {
	case 0:
		if len(m.snaps) < api.MaxSnaps {
			m.lastSnap++
			m.snaps[m.lastSnap] = m.last()
			snap(t, s, m.lastSnap)
		}
	case 1:
		at := random.Intn(m.lastSnap + 2)
		if _, ok := m.snaps[at]; ok {
			delete(m.snaps, at)
			drop(t, s, at, api.OK)
		} else {
			drop(t, s, at, api.ErrSnap)
		}
	case 2, 3:
		flush(t, s, m.flush())
	case 4, 5:
		level := random.Intn(api.LastLevel)
		merge(t, s, level, m.merge(level))
	case 6:
		left, rounds := random.Intn(m.loose()+1), random.Intn(100)
		keep := left + rounds*(m.loose()+1)
		if random.Intn(2) == 0 {
			keep = -keep - 1
		}
		s.Crash(keep)
		m.crash(left)
	case 7:
		stepRun(t, random, s, m)
	default:
		pairs, sync := randomBatch(random), random.Intn(4) == 0
		if n, err := s.Write(pairs, sync); n != m.write(pairs, sync) || err != api.OK {
			t.Fatalf("P4: Write(%+v, %v) = %d, %d, want %d", pairs, sync, n, err, m.last())
		}
	}
}

func compare(t *testing.T, random *rand.Rand, s *silo.Store, m *model, at, seq int) {
	t.Helper()
	scan(t, s, "", 99, at, m.scan("", 99, seq)...)
	for _, key := range modelKeys() {
		most := random.Intn(5)
		scan(t, s, key, most, at, m.scan(key, most, seq)...)
		if value, ok := m.states[seq][key]; ok {
			get(t, s, key, at, value)
		} else {
			getNot(t, s, key, at, api.ErrNone)
		}
	}
}
