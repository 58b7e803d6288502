package silo

import (
	"cmp"
	"slices"
	"sync"

	"silo/api"
)

// run is what the clients of one Run share. The store is touched by none but the client whose turn it is, from when the turn was sent to when it is over.
type run struct {
	store   *Store
	queue   queue
	picks   int            // how many there are
	over    chan struct{}  // sent into when a turn is over
	end     chan struct{}  // closed when all turns are over
	working sync.WaitGroup // the clients that have not ended
}

// Run lets clients work on the store, turn by turn (P14 to P16).
func (s *Store) Run(clients [][]api.Call, picks []int) ([]api.Done, api.Errno) {
	if isTooMuch(clients, picks) {
		return nil, api.ErrMany
	}
	r := &run{store: s, picks: len(picks), over: make(chan struct{}), end: make(chan struct{})}
	started := r.start(clients)
	r.sendTurns(started, picks)
	close(r.end)
	r.working.Wait()
	return answers(started), api.OK
}

func isTooMuch(clients [][]api.Call, picks []int) bool {
	return len(clients) > api.MaxClients || len(picks) > api.MaxPicks || slices.ContainsFunc(clients, hasManyCalls)
}

func hasManyCalls(calls []api.Call) bool { return len(calls) > api.MaxCalls }

// start lets each client work, in a goroutine of its own.
func (r *run) start(clients [][]api.Call) []*client {
	started := make([]*client, 0, len(clients))
	r.working.Add(len(clients))
	for number, calls := range clients {
		c := newClient(r, number, calls)
		started = append(started, c)
		go c.work()
	}
	return started
}

// sendTurns sends each turn to the client that the pick tells, and waits until it is over.
func (r *run) sendTurns(clients []*client, picks []int) {
	if len(clients) == 0 {
		return
	}
	for turn, pick := range picks {
		clients[rest(pick, len(clients))].turns <- turn
		<-r.over
	}
}

// writeGroup writes all batches of the queue, as one group (P14).
func (r *run) writeGroup(turn int) {
	synced := false
	for _, w := range r.queue.takeAll() {
		r.store.write(w.settled)
		w.done.N, w.done.Effect, w.done.Err = r.store.last, turn, api.OK
		synced = synced || w.synced
	}
	if synced {
		r.store.syncAll()
	}
}

// answers tells what all clients were answered, in the order in which they were: a turn answers one call at most, and the end answers client by client (P16).
func answers(clients []*client) []api.Done {
	var done []api.Done
	for _, c := range clients {
		done = append(done, c.answered...)
	}
	slices.SortStableFunc(done, func(a, b api.Done) int { return cmp.Compare(a.Ended, b.Ended) })
	return done
}
