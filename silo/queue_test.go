package silo

import (
	"testing"

	"silo/api"
)

func TestClientsLeaveTheQueue(t *testing.T) {
	write := []api.Call{{Kind: api.CallWrite, Pairs: []api.Pair{{Key: "a", Value: "1"}}}}
	r := &run{store: New(), over: make(chan struct{}), end: make(chan struct{})}
	clients := r.start([][]api.Call{write, write, nil, write})
	r.sendTurns(clients, []int{3, 0, 2, 1})
	if len(r.queue.line) != 3 {
		t.Errorf("P14: %d Writes are in the queue, want 3", len(r.queue.line))
	}
	close(r.end)
	r.working.Wait()
	if len(r.queue.line) != 0 {
		t.Errorf("P15: %d Writes are left in the queue when their clients have ended", len(r.queue.line))
	}
}
