package silo_test

import (
	"cmp"
	"math/rand"
	"slices"
	"strings"
	"testing"

	"silo/api"
	"silo/silo"
)

// modelClient: one client of the model's run.
type modelClient struct {
	calls     []api.Call
	begun     int
	isWaiting bool
	write     api.Done // the Write that is under way; its N is 0 until it is written
	snap      int
}

// run goes through the turns one by one, with no other client at work.
func (m *model) run(calls [][]api.Call, picks []int) []api.Done {
	clients := make([]modelClient, len(calls))
	for i := range clients {
		clients[i] = modelClient{calls: calls[i], snap: -1}
	}
	var queue []int
	var done []api.Done
	for turn, pick := range picks {
		if len(clients) == 0 {
			continue
		}
		if pick < 0 {
			pick = -(pick + 1)
		}
		number := pick % len(clients)
		c := &clients[number]
		if c.isWaiting && len(queue) > 0 && queue[0] == number {
			m.writeQueue(clients, queue, turn)
			queue = nil
		}
		switch {
		case c.isWaiting && c.write.N > 0:
			c.isWaiting, c.write.Ended = false, turn
			done = append(done, c.write)
		case !c.isWaiting && c.begun < len(c.calls):
			call, answer := c.calls[c.begun], answered(number, c.begun, turn)
			c.begun++
			if call.Kind == api.CallWrite && m.check(call.Pairs) == api.OK {
				c.isWaiting, c.write = true, answer
				queue = append(queue, number)
			} else {
				m.answer(c, call, &answer)
				done = append(done, answer)
			}
		}
	}
	return append(done, endAll(clients, len(picks))...)
}

func (m *model) writeQueue(clients []modelClient, queue []int, turn int) {
	for _, number := range queue {
		c := &clients[number]
		c.write.N, c.write.Effect = m.write(c.calls[c.begun-1].Pairs, false), turn
	}
	for _, number := range queue {
		if c := &clients[number]; c.calls[c.begun-1].Sync {
			m.synced = len(m.records)
		}
	}
}

func endAll(clients []modelClient, end int) []api.Done {
	var done []api.Done
	for number, c := range clients {
		switch {
		case c.isWaiting && c.write.N > 0:
			done = append(done, written(number, c.begun-1, c.write.Began, c.write.Effect, end, c.write.N))
		case c.isWaiting:
			done = append(done, cancelled(number, c.begun-1, c.write.Began, end))
		}
	}
	return done
}

func (m *model) check(pairs []api.Pair) api.Errno {
	if len(pairs) < 1 || len(pairs) > 4 {
		return api.ErrMany
	}
	var keys, values, deletions bool
	for _, pair := range pairs {
		keys = keys || pair.Key == "" || len(pair.Key) > 6
		values = values || len(pair.Value) > 8
		deletions = deletions || pair.Gone && pair.Value != ""
	}
	switch {
	case keys:
		return api.ErrKey
	case values:
		return api.ErrLong
	case deletions:
		return api.ErrArg
	}
	return api.OK
}

// answer answers a call that is not under way.
func (m *model) answer(c *modelClient, call api.Call, done *api.Done) {
	at := call.At
	if at == -1 {
		at = c.snap
	}
	seq, hasSnap := m.snaps[at]
	canRead := hasSnap || at == 0
	if at == 0 {
		seq = m.last()
	}
	value, isThere := m.states[seq][call.Key]
	switch {
	case call.Kind == api.CallWrite:
		done.Err = m.check(call.Pairs)
	case call.Kind == api.CallGet && (call.Key == "" || len(call.Key) > 6):
		done.Err = api.ErrKey
	case (call.Kind == api.CallGet || call.Kind == api.CallScan) && !canRead:
		done.Err = api.ErrSnap
	case call.Kind == api.CallGet && !isThere:
		done.Err = api.ErrNone
	case call.Kind == api.CallGet:
		done.Value = value
	case call.Kind == api.CallScan && call.N < 0:
		done.Err = api.ErrArg
	case call.Kind == api.CallScan:
		done.Pairs = m.scan(call.Key, call.N, seq)
	case call.Kind == api.CallSnap && len(m.snaps) == api.MaxSnaps:
		done.Err = api.ErrFull
	case call.Kind == api.CallSnap:
		m.lastSnap++
		m.snaps[m.lastSnap] = m.last()
		c.snap, done.N = m.lastSnap, m.lastSnap
	case call.Kind == api.CallDrop && !hasSnap:
		done.Err = api.ErrSnap
	case call.Kind == api.CallDrop:
		delete(m.snaps, at)
	case call.Kind == api.CallFlush:
		done.Err = m.flush()
	case call.Kind == api.CallMerge && (call.N == 0 || call.N == 1):
		done.Err = m.merge(call.N)
	default:
		done.Err = api.ErrArg
	}
}

// randomCall: most of them Writes, some of them refused.
func randomCall(random *rand.Rand, lastSnap int) api.Call {
	call := api.Call{Kind: random.Intn(9), Key: modelKeys()[random.Intn(len(modelKeys()))], N: random.Intn(4), Sync: random.Intn(6) == 0}
	switch random.Intn(3) {
	case 0:
		call.At = -1
	case 1:
		call.At = random.Intn(lastSnap+4) - 2
	}
	if random.Intn(3) == 0 {
		call.Kind = api.CallWrite
	}
	if call.Kind == api.CallWrite {
		call.Pairs = randomBatch(random)
	}
	if random.Intn(12) == 0 {
		spoilCall(random, &call)
	}
	return call
}

func spoilCall(random *rand.Rand, call *api.Call) {
	switch random.Intn(6) {
	case 0:
		call.Key, call.Pairs = "", nil
	case 1:
		call.N, call.Pairs = -1-random.Intn(3), append(call.Pairs, is("", ""))
	case 2:
		call.Key, call.Pairs = "longest", append(call.Pairs, is("longest", ""))
	case 3:
		call.Pairs = append(call.Pairs, is("a", strings.Repeat("v", 9)))
	case 4:
		call.Pairs = append(call.Pairs, api.Pair{Key: "a", Value: "1", Gone: true})
	case 5:
		call.Kind = random.Int() - random.Int()
	}
}

func randomClients(random *rand.Rand, lastSnap int) [][]api.Call {
	clients := make([][]api.Call, random.Intn(api.MaxClients+1))
	for i := range clients {
		for range random.Intn(api.MaxCalls + 1) {
			clients[i] = append(clients[i], randomCall(random, lastSnap))
		}
	}
	return clients
}

func randomPicks(random *rand.Rand) []int {
	picks := make([]int, random.Intn(80))
	for i := range picks {
		picks[i] = random.Int() - random.Int()
	}
	return picks
}

func stepRun(t *testing.T, random *rand.Rand, s *silo.Store, m *model) {
	t.Helper()
	clients, picks := randomClients(random, m.lastSnap), randomPicks(random)
	run(t, s, clients, picks, m.run(clients, picks)...)
}

// byEffect: the order in which the calls could have been made one by one.
func byEffect(a, b api.Done) int {
	return cmp.Or(cmp.Compare(a.Effect, b.Effect), cmp.Compare(a.N, b.N))
}

func TestRunIsAsOneByOne(t *testing.T) {
	random := rand.New(rand.NewSource(14))
	for range 300 {
		s, one := silo.New(), silo.New()
		lastSnap := 0
		for range 4 {
			clients, picks := randomClients(random, lastSnap), randomPicks(random)
			done, err := s.Run(clients, picks)
			if err != api.OK {
				t.Fatalf("P14: Run = %d", err)
			}
			slices.SortStableFunc(done, byEffect)
			lastSnap = max(lastSnap, replay(t, one, clients, done))
			tables(t, s, one.Tables()...)
			journal(t, s, one.Journal())
			scan(t, s, "", 99, 0, mustScan(one)...)
			if t.Failed() {
				return
			}
		}
	}
}

func mustScan(s *silo.Store) []api.Pair {
	pairs, _ := s.Scan("", 99, 0)
	return pairs
}

// replay makes the calls one by one on another store, and tells the last snapshot that they gave.
func replay(t *testing.T, s *silo.Store, clients [][]api.Call, done []api.Done) int {
	t.Helper()
	lastSnap := 0
	snaps := []int{-1, -1, -1, -1}
	for _, want := range done {
		if want.Began > want.Effect || want.Effect > want.Ended {
			t.Errorf("P17: a call has its Effect not between its Began and Ended: %+v", want)
		}
		if want.Err == api.ErrCancel {
			continue
		}
		call := clients[want.Client][want.Call]
		if call.At == -1 {
			call.At = snaps[want.Client]
		}
		got := callOne(s, call)
		if call.Kind == api.CallSnap && got.Err == api.OK {
			snaps[want.Client], lastSnap = got.N, got.N
		}
		want.Client, want.Call, want.Began, want.Effect, want.Ended = 0, 0, 0, 0, 0
		if !equalDone(got, want) {
			t.Errorf("P17: %+v is answered %+v one by one, and in a run %+v", call, got, want)
		}
	}
	return lastSnap
}

func callOne(s *silo.Store, call api.Call) api.Done {
	var done api.Done
	switch call.Kind {
	case api.CallWrite:
		done.N, done.Err = s.Write(call.Pairs, call.Sync)
	case api.CallGet:
		done.Value, done.Err = s.Get(call.Key, call.At)
	case api.CallScan:
		done.Pairs, done.Err = s.Scan(call.Key, call.N, call.At)
	case api.CallSnap:
		done.N, done.Err = s.Snap()
	case api.CallDrop:
		done.Err = s.Drop(call.At)
	case api.CallFlush:
		done.Err = s.Flush()
	case api.CallMerge:
		done.Err = s.Merge(call.N)
	default:
		done.Err = api.ErrArg
	}
	return done
}

func TestRoundsAnswerAll(t *testing.T) {
	random := rand.New(rand.NewSource(15))
	for range 300 {
		s, clients := silo.New(), randomClients(random, 2)
		if len(clients) == 0 {
			continue
		}
		round := random.Perm(len(clients))
		picks := slices.Repeat(round, api.MaxPicks)[:api.MaxPicks]
		done, err := s.Run(clients, picks)
		if err != api.OK || len(done) != len(slices.Concat(clients...)) {
			t.Fatalf("P17: Run of %+v in rounds %v answers %d calls, %d", clients, round, len(done), err)
		}
		for _, one := range done {
			most := 0
			if clients[one.Client][one.Call].Kind == api.CallWrite {
				most = 3*len(clients) - 1
			}
			if one.Err == api.ErrCancel || one.Ended-one.Began > most {
				t.Fatalf("P17: in rounds %v of %+v a call is answered %+v", round, clients, one)
			}
		}
	}
}
