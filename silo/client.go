package silo

import (
	"silo/api"
	"silo/batch"
)

// noSnap is a number that no snapshot has.
const noSnap = -1

// client is one of those that work on the store in a run.
type client struct {
	*run
	number   int
	calls    []api.Call
	next     int // the how manieth call comes next
	gaveSnap int // the last snapshot that a Snap of this client gave
	underWay *waiting
	answered []api.Done
	turns    chan int
}

func newClient(r *run, number int, calls []api.Call) *client {
	return &client{run: r, number: number, calls: calls, gaveSnap: noSnap, turns: make(chan int)}
}

// work takes the client's turns, until the run ends.
func (c *client) work() {
	defer c.working.Done()
	defer c.leave()
	for {
		// Nothing hangs on how select chooses: the end is not told ahead of the last turn's being over.
		select {
		case turn := <-c.turns:
			c.take(turn)
		case <-c.end:
			return
		}
	}
}

// leave gives up the place in the queue, and answers the Write that is under way, as it stands (P15).
func (c *client) leave() {
	if c.underWay != nil {
		c.queue.remove(c.underWay)
		c.answerWrite()
	}
}

// take does what the client does in its turn (P14).
func (c *client) take(turn int) {
	defer c.giveBack()
	switch {
	case c.underWay != nil:
		c.goOn(turn)
	case c.next < len(c.calls):
		c.begin(turn)
	}
}

// giveBack lets the turn go: from then on what the clients share is another's.
func (c *client) giveBack() { c.over <- struct{}{} }

// goOn goes on with the Write that is under way.
func (c *client) goOn(turn int) {
	if c.queue.isFirst(c.underWay) {
		c.writeGroup(turn)
	}
	if c.underWay.isWritten() {
		c.underWay.done.Ended = turn
		c.answerWrite()
	}
}

func (c *client) answerWrite() {
	c.answered = append(c.answered, c.underWay.done)
	c.underWay = nil
}

// begin begins the next call.
func (c *client) begin(turn int) {
	call := c.calls[c.next]
	done := api.Done{Client: c.number, Call: c.next, Began: turn, Effect: turn, Ended: turn}
	c.next++
	if call.Kind == api.CallWrite && batch.Check(call.Pairs) == api.OK {
		c.queueUp(call, done)
		return
	}
	c.makeCall(call, &done)
	c.answered = append(c.answered, done)
}

// queueUp lays a Write's batch behind the queue. It is answered ErrCancel in the end, unless it is written ahead of that.
func (c *client) queueUp(call api.Call, done api.Done) {
	done.Effect, done.Ended, done.Err = c.picks, c.picks, api.ErrCancel
	c.underWay = &waiting{settled: batch.Settle(call.Pairs), synced: call.Sync, done: done}
	c.queue.add(c.underWay)
}

// makeCall makes a call that is answered in the turn in which it begins.
func (c *client) makeCall(call api.Call, done *api.Done) {
	switch call.Kind {
	case api.CallWrite:
		done.Err = batch.Check(call.Pairs)
	case api.CallGet:
		done.Value, done.Err = c.store.Get(call.Key, c.snapAt(call.At))
	case api.CallScan:
		done.Pairs, done.Err = c.store.Scan(call.Key, call.N, c.snapAt(call.At))
	case api.CallSnap:
		done.N, done.Err = c.snap()
	case api.CallDrop:
		done.Err = c.store.Drop(c.snapAt(call.At))
	case api.CallFlush:
		done.Err = c.store.Flush()
	case api.CallMerge:
		done.Err = c.store.Merge(call.N)
	default:
		done.Err = api.ErrArg
	}
}

// snap makes a snapshot, and keeps its number for the calls that mean it by -1.
func (c *client) snap() (int, api.Errno) {
	number, err := c.store.Snap()
	if err == api.OK {
		c.gaveSnap = number
	}
	return number, err
}

// snapAt tells which snapshot a call means (P15).
func (c *client) snapAt(at int) int {
	if at == -1 {
		return c.gaveSnap
	}
	return at
}
