package silo_test

import (
	"math"
	"reflect"
	"slices"
	"strings"
	"testing"
	"testing/synctest"

	"silo/api"
	"silo/silo"
)

func writes(pairs ...api.Pair) api.Call { return api.Call{Kind: api.CallWrite, Pairs: pairs} }

func writesSynced(pairs ...api.Pair) api.Call {
	return api.Call{Kind: api.CallWrite, Pairs: pairs, Sync: true}
}

func gets(key string, at int) api.Call { return api.Call{Kind: api.CallGet, Key: key, At: at} }

func scans(from string, most, at int) api.Call {
	return api.Call{Kind: api.CallScan, Key: from, N: most, At: at}
}

func snaps() api.Call { return api.Call{Kind: api.CallSnap} }

func drops(at int) api.Call { return api.Call{Kind: api.CallDrop, At: at} }

func flushes() api.Call { return api.Call{Kind: api.CallFlush} }

func merges(level int) api.Call { return api.Call{Kind: api.CallMerge, N: level} }

// answered: what a call was answered in the turn in which it began.
func answered(client, call, turn int) api.Done {
	return api.Done{Client: client, Call: call, Began: turn, Effect: turn, Ended: turn}
}

func refused(client, call, turn int, err api.Errno) api.Done {
	done := answered(client, call, turn)
	done.Err = err
	return done
}

func told(client, call, turn int, value string) api.Done {
	done := answered(client, call, turn)
	done.Value = value
	return done
}

func scanned(client, call, turn int, pairs ...api.Pair) api.Done {
	done := answered(client, call, turn)
	done.Pairs = pairs
	return done
}

func snapped(client, call, turn, number int) api.Done {
	done := answered(client, call, turn)
	done.N = number
	return done
}

func written(client, call, began, effect, ended, number int) api.Done {
	return api.Done{Client: client, Call: call, Began: began, Effect: effect, Ended: ended, N: number}
}

func cancelled(client, call, began, end int) api.Done {
	return api.Done{Client: client, Call: call, Began: began, Effect: end, Ended: end, Err: api.ErrCancel}
}

func equalDone(a, b api.Done) bool {
	equal := slices.Equal(a.Pairs, b.Pairs)
	a.Pairs, b.Pairs = nil, nil
	return equal && reflect.DeepEqual(a, b)
}

func run(t *testing.T, s *silo.Store, clients [][]api.Call, picks []int, want ...api.Done) {
	t.Helper()
	done, err := s.Run(clients, picks)
	if err != api.OK || !slices.EqualFunc(done, want, equalDone) {
		t.Errorf("P14 to P16: Run(%+v, %v) =\n%+v, %d, want\n%+v", clients, picks, done, err, want)
	}
}

func runNot(t *testing.T, s *silo.Store, clients [][]api.Call, picks []int) {
	t.Helper()
	if done, err := s.Run(clients, picks); len(done) != 0 || err != api.ErrMany {
		t.Errorf("P14: Run of %d clients, %d picks = %+v, %d, want ErrMany", len(clients), len(picks), done, err)
	}
}

// rounds: each client has a turn, again and again.
func rounds(clients, turns int) []int {
	picks := make([]int, turns)
	for turn := range picks {
		picks[turn] = turn % clients
	}
	return picks
}

func TestRunExamples(t *testing.T) {
	clients := [][]api.Call{{writes(is("a", "1"))}, {writes(is("b", "2"))}}
	s := silo.New()
	run(t, s, clients, []int{0, 1, 1, 0, 1}, written(0, 0, 0, 3, 3, 1), written(1, 0, 1, 3, 4, 2))
	scan(t, s, "", 9, 0, is("a", "1"), is("b", "2"))
	s = silo.New()
	run(t, s, clients, []int{0, 1}, cancelled(0, 0, 0, 2), cancelled(1, 0, 1, 2))
	scan(t, s, "", 9, 0)
	journal(t, s)
}

func TestRunOfNothing(t *testing.T) {
	s := silo.New()
	write(t, s, 1, is("a", "1"))
	records := s.Journal()
	someCalls := [][]api.Call{{writes(is("b", "2")), flushes(), snaps()}}
	run(t, s, nil, nil)
	run(t, s, nil, rounds(3, api.MaxPicks))
	run(t, s, [][]api.Call{}, []int{0, -1, math.MaxInt, math.MinInt})
	run(t, s, [][]api.Call{nil, {}, nil}, rounds(3, 9))
	run(t, s, someCalls, nil)
	run(t, s, someCalls, []int{})
	journal(t, s, records)
	snap(t, s, 1)
}

func TestRunOfTooMuch(t *testing.T) {
	s := silo.New()
	one := []api.Call{writes(is("a", "1")), snaps()}
	runNot(t, s, [][]api.Call{one, nil, nil, nil, nil}, rounds(5, 20))
	runNot(t, s, make([][]api.Call, 1<<20), nil)
	runNot(t, s, [][]api.Call{slices.Repeat(one, 5)}, rounds(1, 20))
	runNot(t, s, [][]api.Call{one, nil, one, make([]api.Call, api.MaxCalls+1)}, rounds(4, 20))
	runNot(t, s, [][]api.Call{make([]api.Call, 1<<20)}, nil)
	runNot(t, s, [][]api.Call{one}, rounds(1, api.MaxPicks+1))
	runNot(t, s, nil, make([]int, 1<<20))
	scan(t, s, "", 9, 0)
	journal(t, s)
	snap(t, s, 1)
	write(t, s, 1, is("b", "2"))
}

func TestRunTakesTheEdges(t *testing.T) {
	var want []api.Done
	clients := make([][]api.Call, api.MaxClients)
	for i := range clients {
		clients[i] = slices.Repeat([]api.Call{gets("a", 0)}, api.MaxCalls)
	}
	for turn := range api.MaxClients * api.MaxCalls {
		want = append(want, refused(turn%api.MaxClients, turn/api.MaxClients, turn, api.ErrNone))
	}
	run(t, silo.New(), clients, rounds(api.MaxClients, api.MaxPicks), want...)
}

func TestPicksTellTheClient(t *testing.T) {
	picks := []int{0, 1, 2, 3, 4, 5, 99, -1, -2, -3, -4, -5, math.MaxInt, math.MaxInt - 1, math.MinInt, math.MinInt + 1}
	of := [][]int{
		{0, 0, 0, 0, 0, 0, 0, 0, 0, 0, 0, 0, 0, 0, 0, 0},
		{0, 1, 0, 1, 0, 1, 1, 0, 1, 0, 1, 0, 1, 0, 1, 0},
		{0, 1, 2, 0, 1, 2, 0, 0, 1, 2, 0, 1, 1, 0, 1, 0},
		{0, 1, 2, 3, 0, 1, 3, 0, 1, 2, 3, 0, 3, 2, 3, 2},
	}
	for last, want := range of {
		clients := slices.Repeat([][]api.Call{{gets("a", 0)}}, last+1)
		for i, pick := range picks {
			run(t, silo.New(), clients, []int{pick}, refused(want[i], 0, 0, api.ErrNone))
		}
	}
}

func TestRunMakesEachCall(t *testing.T) {
	s := silo.New()
	write(t, s, 1, is("a", "1"))
	snap(t, s, 1)
	write(t, s, 2, is("a", "2"), is("b", "3"))
	reads := []api.Call{gets("a", 0), gets("a", 1), scans("", 9, 0), scans("aa", 9, 0), scans("", 1, 0), scans("", 9, 1), scans("", 0, 0), gets("b", 1)}
	run(t, s, [][]api.Call{reads}, rounds(1, 9),
		told(0, 0, 0, "2"), told(0, 1, 1, "1"),
		scanned(0, 2, 2, is("a", "2"), is("b", "3")), scanned(0, 3, 3, is("b", "3")), scanned(0, 4, 4, is("a", "2")),
		scanned(0, 5, 5, is("a", "1")), scanned(0, 6, 6), refused(0, 7, 7, api.ErrNone))
	changes := []api.Call{snaps(), drops(1), flushes(), merges(0), merges(1), writes(is("c", "4"), gone("a"), is("c", "5")), flushes()}
	run(t, s, [][]api.Call{changes}, rounds(1, 8),
		snapped(0, 0, 0, 2), answered(0, 1, 1), answered(0, 2, 2), answered(0, 3, 3), answered(0, 4, 4), written(0, 5, 5, 6, 6, 3), answered(0, 6, 7))
	tables(t, s, on(0, del("a", 3), put("c", 3, "5")), on(2, put("a", 2, "2"), put("b", 2, "3")))
	journal(t, s)
	getNot(t, s, "a", 1, api.ErrSnap)
	get(t, s, "a", 2, "2")
}

func TestRunRefusesEachCall(t *testing.T) {
	s := silo.New()
	for number := 1; number <= api.MaxSnaps; number++ {
		snap(t, s, number)
	}
	long := strings.Repeat("x", api.MaxValue+1)
	for _, one := range []struct {
		call api.Call
		err  api.Errno
	}{
		{api.Call{Kind: api.CallWrite}, api.ErrMany},
		{api.Call{Kind: api.CallWrite, Pairs: make([]api.Pair, api.MaxPairs+1), Sync: true}, api.ErrMany},
		{api.Call{Kind: api.CallWrite, Pairs: []api.Pair{is("a", long), is("", "")}}, api.ErrKey},
		{api.Call{Kind: api.CallWrite, Pairs: []api.Pair{is("a", long)}}, api.ErrLong},
		{api.Call{Kind: api.CallWrite, Pairs: []api.Pair{{Key: "a", Value: "1", Gone: true}}}, api.ErrArg},
		{api.Call{Kind: api.CallGet}, api.ErrKey},
		{api.Call{Kind: api.CallGet, Key: "toolong", At: 9}, api.ErrKey},
		{api.Call{Kind: api.CallGet, Key: "a", At: 9}, api.ErrSnap},
		{api.Call{Kind: api.CallGet, Key: "a", At: -2}, api.ErrSnap},
		{api.Call{Kind: api.CallGet, Key: "a"}, api.ErrNone},
		{api.Call{Kind: api.CallScan, At: 9, N: -1}, api.ErrSnap},
		{api.Call{Kind: api.CallScan, N: -1}, api.ErrArg},
		{api.Call{Kind: api.CallSnap}, api.ErrFull},
		{api.Call{Kind: api.CallDrop}, api.ErrSnap},
		{api.Call{Kind: api.CallDrop, At: math.MinInt}, api.ErrSnap},
		{api.Call{Kind: api.CallFlush}, api.ErrEmpty},
		{api.Call{Kind: api.CallMerge}, api.ErrEmpty},
		{api.Call{Kind: api.CallMerge, N: -1}, api.ErrArg},
		{api.Call{Kind: api.CallMerge, N: api.LastLevel}, api.ErrArg},
		{api.Call{Pairs: []api.Pair{is("a", "1")}}, api.ErrArg},
		{api.Call{Kind: 8, Pairs: []api.Pair{is("a", "1")}, Key: "a"}, api.ErrArg},
		{api.Call{Kind: -1, Key: "a"}, api.ErrArg},
		{api.Call{Kind: math.MaxInt}, api.ErrArg},
		{api.Call{Kind: math.MinInt}, api.ErrArg},
	} {
		run(t, s, [][]api.Call{{one.call}}, []int{0, 0}, refused(0, 0, 0, one.err))
	}
	scan(t, s, "", 9, 0)
	journal(t, s)
	write(t, s, 1, is("a", "1"))
}

func TestQueueIsWrittenByItsFirst(t *testing.T) {
	s := silo.New()
	clients := [][]api.Call{{writes(is("k", "0"))}, {writes(is("k", "1"))}, {writes(is("k", "2"))}, {gets("k", 0), gets("k", 0)}}
	// 2, 0 and 1 queue up; 0 and 1 wait, until 2 writes all.
	run(t, s, clients, []int{2, 0, 1, 0, 1, 3, 1, 0, 2, 3, 1, 0, 0, 1, 2, 3},
		refused(3, 0, 5, api.ErrNone),
		written(2, 0, 0, 8, 8, 1), told(3, 1, 9, "1"), written(1, 0, 2, 8, 10, 3), written(0, 0, 1, 8, 11, 2))
	journal(t, s, record(1, 0, 1, 'k', 1, '2'), record(1, 0, 1, 'k', 1, '0'), record(1, 0, 1, 'k', 1, '1'))
}

func TestQueueBeginsAnewBehindAGroup(t *testing.T) {
	s := silo.New()
	w := func(key string) api.Call { return writes(is(key, "")) }
	clients := [][]api.Call{{w("a"), w("b")}, {w("c"), w("d")}, {w("e")}}
	// 1 was written with 0, and stands behind 2 and 0 with its next one.
	run(t, s, clients, []int{0, 1, 0, 2, 0, 0, 1, 1, 1, 0, 2, 1, 0},
		written(0, 0, 0, 2, 2, 1), written(1, 0, 1, 2, 6, 2),
		written(2, 0, 3, 10, 10, 3), written(1, 1, 7, 10, 11, 5), written(0, 1, 4, 10, 12, 4))
}

func TestQueuedBatchesAreNotThere(t *testing.T) {
	s := silo.New()
	clients := [][]api.Call{
		{writes(is("a", "1"))},
		{gets("a", 0), scans("", 9, 0), snaps(), flushes(), merges(0), drops(1), snaps(), gets("a", 2)},
	}
	run(t, s, clients, []int{0, 1, 1, 1, 1, 1, 1, 1, 0, 1},
		refused(1, 0, 1, api.ErrNone), scanned(1, 1, 2), snapped(1, 2, 3, 1), refused(1, 3, 4, api.ErrEmpty), refused(1, 4, 5, api.ErrEmpty),
		answered(1, 5, 6), snapped(1, 6, 7, 2), written(0, 0, 0, 8, 8, 1), refused(1, 7, 9, api.ErrNone))
	get(t, s, "a", 0, "1")
}

func TestQueuedBatchOutlastsFlush(t *testing.T) {
	s := silo.New()
	write(t, s, 1, is("a", "1"))
	clients := [][]api.Call{{writes(is("a", "2"))}, {flushes(), gets("a", 0), flushes(), gets("a", 0)}}
	run(t, s, clients, []int{0, 1, 1, 0, 1, 1},
		answered(1, 0, 1), told(1, 1, 2, "1"), written(0, 0, 0, 3, 3, 2), answered(1, 2, 4), told(1, 3, 5, "2"))
	tables(t, s, on(0, put("a", 2, "2")), on(0, put("a", 1, "1")))
}

func TestRefusedWriteDoesNotQueue(t *testing.T) {
	s := silo.New()
	clients := [][]api.Call{{writes(), writes(is("a", "1"))}, {writes(is("b", "2"))}}
	run(t, s, clients, []int{0, 1, 0, 1, 0}, refused(0, 0, 0, api.ErrMany), written(1, 0, 1, 3, 3, 1), written(0, 1, 2, 3, 4, 2))
}

func TestClientsOfOtherTurnsDoNothing(t *testing.T) {
	s := silo.New()
	clients := [][]api.Call{{snaps()}, {snaps()}, {snaps()}}
	run(t, s, clients, []int{2, 2, 2, 0}, snapped(2, 0, 0, 1), snapped(0, 0, 3, 2))
	snap(t, s, 3)
}

func TestLastSnapshotOfAClient(t *testing.T) {
	s := silo.New()
	write(t, s, 1, is("a", "1"))
	run(t, s, [][]api.Call{{snaps(), gets("a", -1), writes(is("a", "2")), snaps(), gets("a", -1), scans("", 9, -1), drops(-1), gets("a", -1)}}, rounds(1, 9),
		snapped(0, 0, 0, 1), told(0, 1, 1, "1"), written(0, 2, 2, 3, 3, 2), snapped(0, 3, 4, 2), told(0, 4, 5, "2"),
		scanned(0, 5, 6, is("a", "2")), answered(0, 6, 7), refused(0, 7, 8, api.ErrSnap))
	get(t, s, "a", 1, "1")
	getNot(t, s, "a", 2, api.ErrSnap)
}

func TestNoLastSnapshot(t *testing.T) {
	s := silo.New()
	write(t, s, 1, is("a", "1"))
	snap(t, s, 1)
	none := []api.Call{gets("a", -1), scans("", 9, -1), scans("", -1, -1), drops(-1), gets("", -1)}
	want := func(client, first int) []api.Done {
		errs := []api.Errno{api.ErrSnap, api.ErrSnap, api.ErrSnap, api.ErrSnap, api.ErrKey}
		var list []api.Done
		for i, err := range errs {
			list = append(list, refused(client, i, first+i, err))
		}
		return list
	}
	run(t, s, [][]api.Call{none}, rounds(1, 5), want(0, 0)...)
	// A Snap of another client, or of another run, is not this one's.
	run(t, s, [][]api.Call{{snaps()}, none}, []int{0, 1, 1, 1, 1, 1}, append([]api.Done{snapped(0, 0, 0, 2)}, want(1, 1)...)...)
	run(t, s, [][]api.Call{none}, rounds(1, 5), want(0, 0)...)
	get(t, s, "a", 1, "1")
	get(t, s, "a", 2, "1")
	getNot(t, s, "a", -1, api.ErrSnap)
}

func TestFullSnapGivesNone(t *testing.T) {
	s := silo.New()
	write(t, s, 1, is("a", "1"))
	for number := 1; number < api.MaxSnaps; number++ {
		snap(t, s, number)
	}
	run(t, s, [][]api.Call{{snaps(), writes(is("a", "2")), snaps(), gets("a", -1)}, {snaps(), gets("a", -1)}}, []int{0, 0, 0, 0, 0, 1, 1},
		snapped(0, 0, 0, api.MaxSnaps), written(0, 1, 1, 2, 2, 2), refused(0, 2, 3, api.ErrFull), told(0, 3, 4, "1"),
		refused(1, 0, 5, api.ErrFull), refused(1, 1, 6, api.ErrSnap))
}

func TestSnapshotOfAClientIsEveryones(t *testing.T) {
	s := silo.New()
	write(t, s, 1, is("a", "1"))
	clients := [][]api.Call{{snaps(), gets("a", -1)}, {drops(1), gets("a", 1)}}
	run(t, s, clients, []int{0, 1, 0, 1},
		snapped(0, 0, 0, 1), answered(1, 0, 1), refused(0, 1, 2, api.ErrSnap), refused(1, 1, 3, api.ErrSnap))
}

func TestEndAnswersClientByClient(t *testing.T) {
	s := silo.New()
	w := func(key string) api.Call { return writes(is(key, "")) }
	clients := [][]api.Call{{w("a"), w("x")}, {w("b")}, {w("c")}, {w("d"), w("y")}}
	// 3, 1 and 0 are one group; 3 is answered, and queues up once more, ahead of 2.
	run(t, s, clients, []int{3, 1, 0, 3, 3, 2},
		written(3, 0, 0, 3, 3, 1), written(0, 0, 2, 3, 6, 3), written(1, 0, 1, 3, 6, 2), cancelled(2, 0, 5, 6), cancelled(3, 1, 4, 6))
	scan(t, s, "", 9, 0, is("a", ""), is("b", ""), is("d", ""))
	write(t, s, 4, is("z", ""))
}

func TestCancelledBatchIsNeverWritten(t *testing.T) {
	s := silo.New()
	write(t, s, 1, is("a", "1"))
	records := s.Journal()
	run(t, s, [][]api.Call{{writesSynced(is("a", "2"))}}, []int{0}, cancelled(0, 0, 0, 1))
	journal(t, s, records)
	get(t, s, "a", 0, "1")
	run(t, s, [][]api.Call{nil, {writes(is("b", "3"))}}, []int{0, 1, 0, 1}, written(1, 0, 1, 3, 3, 2))
	scan(t, s, "", 9, 0, is("a", "1"), is("b", "3"))
	s.Crash(0)
	scan(t, s, "", 9, 0)
}

func TestGroupIsSynced(t *testing.T) {
	plain, synced := writes(is("k", "1")), writesSynced(is("k", "2"))
	for at := range 3 {
		s := silo.New()
		write(t, s, 1, is("a", "1"))
		clients := [][]api.Call{{plain}, {plain}, {plain}}
		clients[at][0] = synced
		run(t, s, clients, []int{0, 1, 2, 0}, written(0, 0, 0, 3, 3, 2), written(1, 0, 1, 3, 4, 3), written(2, 0, 2, 3, 4, 4))
		records := s.Journal()
		write(t, s, 5, is("b", "1"))
		s.Crash(0)
		journal(t, s, records)
		write(t, s, 5, is("b", "1"))
	}
}

func TestGroupIsLoose(t *testing.T) {
	s := silo.New()
	refusedSync := api.Call{Kind: api.CallWrite, Sync: true}
	readSync := api.Call{Kind: api.CallGet, Key: "a", Sync: true}
	clients := [][]api.Call{{writes(is("a", "1"))}, {writes(is("b", "2"))}, {refusedSync, readSync, writesSynced(is("c", "3"))}}
	run(t, s, clients, []int{0, 1, 0, 1, 2, 2, 2},
		written(0, 0, 0, 2, 2, 1), written(1, 0, 1, 2, 3, 2), refused(2, 0, 4, api.ErrMany), told(2, 1, 5, "1"), cancelled(2, 2, 6, 7))
	s.Crash(0)
	journal(t, s)
	write(t, s, 1, is("a", "1"))
}

func TestRunsAnswerTheSameAgain(t *testing.T) {
	clients := [][]api.Call{
		{writes(is("a", "1")), gets("a", 0), writes(is("a", "2"))}, {writesSynced(is("a", "3")), snaps(), scans("", 9, -1)},
		{writes(is("b", "4")), flushes()}, {writes(gone("a")), merges(0)},
	}
	picks := []int{3, 1, 0, 2, 2, 1, 3, 0, 1, 1, 2, 2, 0, 3}
	first, _ := silo.New().Run(clients, picks)
	for range 300 {
		run(t, silo.New(), clients, picks, first...)
		if t.Failed() {
			return
		}
	}
}

func TestClientsHaveEnded(t *testing.T) {
	w := []api.Call{writes(is("a", "1"))}
	for _, clients := range [][][]api.Call{nil, {nil}, {w, nil, w, w}} {
		for _, picks := range [][]int{nil, {0}, {0, 2, 3, 0}, rounds(4, api.MaxPicks)} {
			// The bubble panics, if a goroutine of it is left that nothing wakes.
			synctest.Test(t, func(t *testing.T) {
				if _, err := silo.New().Run(clients, picks); err != api.OK {
					t.Errorf("P14: Run = %d", err)
				}
			})
		}
	}
}
