package silo_test

import (
	"cmp"
	"math/rand"
	"slices"
	"strconv"
	"testing"

	"silo/api"
	"silo/silo"
)

// model keeps every state that there was, so that it need not know what an entry is.
type model struct {
	states   []map[string]string
	snaps    map[int]int
	lastSnap int
}

func newModel() *model {
	return &model{states: []map[string]string{{}}, snaps: map[int]int{}}
}

func (m *model) last() int { return len(m.states) - 1 }

func (m *model) write(pairs []api.Pair) int {
	state := map[string]string{}
	for key, value := range m.states[m.last()] {
		state[key] = value
	}
	for _, pair := range pairs {
		if pair.Gone {
			delete(state, pair.Key)
		} else {
			state[pair.Key] = pair.Value
		}
	}
	m.states = append(m.states, state)
	return m.last()
}

func (m *model) scan(from string, most, at int) []api.Pair {
	var pairs []api.Pair
	for key, value := range m.states[at] {
		if key >= from {
			pairs = append(pairs, is(key, value))
		}
	}
	slices.SortFunc(pairs, func(a, b api.Pair) int { return cmp.Compare(a.Key, b.Key) })
	return pairs[:min(most, len(pairs))]
}

func modelKeys() []string {
	return []string{"\x00", "a", "a\x00", "aa", "ab", "b", "\x7f", "\x80", "\xff", "\xff\xff", "zzzzzz"}
}

func randomBatch(random *rand.Rand) []api.Pair {
	pairs := make([]api.Pair, 1+random.Intn(api.MaxPairs))
	for i := range pairs {
		key := modelKeys()[random.Intn(len(modelKeys()))]
		if random.Intn(3) == 0 {
			pairs[i] = gone(key)
		} else {
			pairs[i] = is(key, strconv.Itoa(random.Intn(1000)))
		}
	}
	return pairs
}

func TestStoreTellsWhatTheBatchesMake(t *testing.T) {
	random := rand.New(rand.NewSource(2))
	for range 100 {
		s, m := silo.New(), newModel()
		for range 60 {
			step(t, random, s, m)
			compare(t, random, s, m, 0, m.last())
			for at := -1; at <= m.lastSnap+1; at++ {
				if seq, ok := m.snaps[at]; ok {
					compare(t, random, s, m, at, seq)
				} else if at != 0 {
					getNot(t, s, "a", at, api.ErrSnap)
				}
			}
			if t.Failed() {
				return
			}
		}
	}
}

func step(t *testing.T, random *rand.Rand, s *silo.Store, m *model) {
	t.Helper()
	switch random.Intn(6) {
	case 0:
		if len(m.snaps) < api.MaxSnaps {
			m.lastSnap++
			m.snaps[m.lastSnap] = m.last()
			snap(t, s, m.lastSnap)
		}
	case 1:
		at := random.Intn(m.lastSnap + 2)
		if _, ok := m.snaps[at]; ok {
			delete(m.snaps, at)
			drop(t, s, at, api.OK)
		} else {
			drop(t, s, at, api.ErrSnap)
		}
	default:
		pairs := randomBatch(random)
		write(t, s, m.write(pairs), pairs...)
	}
}

func compare(t *testing.T, random *rand.Rand, s *silo.Store, m *model, at, seq int) {
	t.Helper()
	scan(t, s, "", 99, at, m.scan("", 99, seq)...)
	for _, key := range modelKeys() {
		most := random.Intn(5)
		scan(t, s, key, most, at, m.scan(key, most, seq)...)
		if value, ok := m.states[seq][key]; ok {
			get(t, s, key, at, value)
		} else {
			getNot(t, s, key, at, api.ErrNone)
		}
	}
}
